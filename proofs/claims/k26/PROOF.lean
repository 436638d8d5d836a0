import PyProof.Rows.All
import Wide.All
import OpenK.AllK
import Wide.FinOn
import PyProof.ReprRoads
import HandS.ForMost
import HandS.ForExc
import HandS.Wide
import HandS.IsInst
import HandS.ExcIs
import HandS.ExcValue
import HandS.RaiseMore
import HandS.FStr
import HandS.Set
import HandS.SetFor
import HandS.SortInts
import HandS.SetBool
import PyProof.StrLaws
import HandS.GenOver
import PyProof.WalksS
import PyProof.ConsumeS
import HandS.AnyAll
import PyProof.ListStr
import PyProof.StrOps2
import HandS.EndOwn
import KE.KNest
import KE.KRevSl
import PyProof.Rows.SeqMore
import HandS.DictComp
import HandS.Dict
import HandS.WordsDict
import HandS.Star
import HandS.Walk
import PyProof.SeqRoads2
import KE.DataCmp
import HandS.Flow
import HandS.Defaults
import HandS.Iter
import HandS.TryOnly
import PySem.Challenge.RW_dimkeepers_k26_whole_each_beginning_goes
set_option Elab.async false
set_option linter.all false
set_option maxRecDepth 100000
set_option maxHeartbeats 8000000
/-! rules of my own: powers of great ints; defs that are called where nothing is being shown (so that repr runs); repr of data -/
namespace My
open PySem PySem.Spec PyProof.Rows L2
/-! ### powers -/
section
variable {X : Cx}
def PowFit (i j : Int) : Prop := 0 ≤ j ∧ (Builtin.Int.intBits i : Int) * j ≤ 2 ^ 27
theorem op_powW : OpR X (binaryOp .Pow) (rI PowFit fun i j => .int (i ^ j.toNat)) :=
  opI fun _ _ _ _ _ _ _ fit q => pow_int fit.1 fit.2 q
end
/-! ### a def's promise where nothing is being shown -/
structure FnG (P : Program) (w : World) (K : PySem.W.Frag) (mg : Str → Option Value) (base : Heap)
    (CX : CXT) (k : Nat) (f : Addr) (fd : FuncData) (ps : List Str) (sp : Sp) : Prop where
  arity : ∀ vs H Q E, sp vs H Q E → vs.length = ps.length
  go : ∀ (A : Around) (outer : List Env) (s : Shared) (H : Hp) (args : Args) (us : List Value) (vs : List V)
    (Q : VK) (E : XK), A.guards = some [] → Room k A → Env0 P w K mg base A outer s H →
    BindsTo s fd args (ps.zip us) → Vals vs us → sp vs H Q E →
    codeAny (model P w) A (.call (.ref f) args) (CR CX outer P w H s Q E) s
section
variable {P : Program} {w : World} {K : PySem.W.Frag} {mg : Str → Option Value} {base : Heap}
theorem okG {CX : CXT} {x qual : Str} {st : Stmt} {f : Addr} {fd : FuncData} {N ps : List Str} {k : Nat} {sp : Sp}
    (F : Fun K x qual st f fd) (S : FnScope N ps (defScope st))
    (arity : ∀ vs H Q E, sp vs H Q E → vs.length = ps.length)
    (body : ∀ (cdv : Value) (A : Around) (outer : List Env) (s : Shared) (H : Hp) (vs : List V) (Q : VK) (E : XK),
      A.guards = some [] → Room k (A.deeper (envOfC qual (defScope st) s.heap.objs.size f cdv)) → sp vs H Q E →
      ∃ t, PSs (cxOf CX P w K mg base N qual (defScope st) f cdv A outer s H E).nox (defBody st) t ∧
        t { nx := fun _ H' => Q .non H', rt := Q } (start N vs) H) :
    FnG P w K mg base CX (k + 1) f fd ps sp := by
  obtain ⟨oc, od, kV, doc, pm, an, cdv, ct, osl, rfl, lk, hcd⟩ := F.ex
  refine ⟨arity, fun A outer s H args us vs Q E gd room e0 bnd rv want => ?_⟩
  have al := arity _ _ _ _ want
  have stay : ∀ b o, base.get? b = some o → s.heap.get? b = some o := fun b o e => (e0.bs b o e).1
  have inK : K.In s.heap := e0.mod.kin.keeps stay
  have nolim : s.heap.NoLimit := e0.mod.nolimit.keeps stay
  have kinds : ∀ y ∈ ps.zip us, (defScope st).names.lookup y.1 = some .local ∨
      ((defScope st).names.lookup y.1 = some .cell ∧
        ((cellsFrom (s.heap.objs.size + 1) (defScope st).names []).lookup y.1).isSome = true) := by
    rintro ⟨n, v⟩ hy
    rcases S.par n (List.of_mem_zip hy).1 with q | q
    · exact .inl q
    · exact .inr ⟨q, PySem.W.cellsFrom_some _ _ _ (.inl q)⟩
  refine codeAny_call_function room.depth (inK _ _ lk) rfl S.co S.gen rfl
    (PySem.W.codeRec_of inK hcd) (bnd _ _ _ _ ?_)
  refine wpAny_newFunctionEnv_cells S.kind kinds fun env he s1 x => ?_
  subst he
  refine ⟨nolim.keeps x.toInCall.keep, codeAny_func ?_⟩
  obtain ⟨t, ht0, hq⟩ := body cdv A outer s H vs Q E gd (room.deeper _) want
  have ht := ht0.nox
  have I := inv_start (E := E) (CX := CX) S room.hd e0 al rv x
  refine wpAny_mono (ht.run [] s1 (start N vs) H _ I hq) (fun fl s' hs => ?_) fun e s' hs => hs
  cases fl with
  | ret u =>
    obtain ⟨v, σ', H', J, rv', q⟩ := hs
    exact ⟨v, H', J.os, J.bare, J.base, J.hok, rv', q⟩
  | next =>
    obtain ⟨σ', H', J, q⟩ := hs
    exact ⟨V.non, H', J.os, J.bare, J.base, J.hok, rfl, q⟩
  | brk => exact hs.elim fun _ z => z.elim fun _ z => z.2.elim
  | cont => exact hs.elim fun _ z => z.elim fun _ z => z.2.elim
end
/-! ### its call from such a def -/
section
variable {X : Cx} {CX : CXT} {k : Nat} {f : Addr} {fd : FuncData} {ps : List Str} {sp : Sp} {E : XK} {x : Str}
  {p pos : Pos} {e : Expr} {es : List Expr} {t : TA}
theorem run_fnG {pins : List (Addr × Obj)} {σ : L2.St} {H : Hp} {s : Shared} {Q : VK} {us : List Value} {vs : List V}
    (F : FnG X.prog X.w X.K X.mg X.base CX k f fd ps sp) (gd : X.A.guards = some []) (room : Room k X.A)
    (bnd : Binds X.K fd ps []) (pass : Passes CX X E) (I : Inv X pins σ H s) (r : Vals vs us) (h : sp vs H Q E) :
    wpAny (model X.prog X.w) X.A (call (.ref f) us) (EP X pins σ Q) X.xe s := by
  have al : (us ++ []).length = ps.length := by
    rw [List.append_nil, ← r.length]
    exact F.arity _ _ _ _ h
  have b := bnd s us I.kIn al
  rw [List.append_nil] at b
  refine wpAny_call (codeAny_mono (F.go X.A X.stack s H ⟨us, []⟩ us vs Q E gd room I.env0 b r h) fun out s' hq => ?_)
  rcases out with e | fl
  · exact pass pins σ H s e s' I hq
  · cases fl with
    | ret u => exact I.after hq
    | next => exact hq.elim
    | brk => exact hq.elim
    | cont => exact hq.elim
theorem pe_callG (F : FnG X.prog X.w X.K X.mg X.base CX k f fd ps sp) (gd : X.A.guards = some [])
    (room : Room k X.A) (hg : Gl X x) (hm : X.mg x = some (.ref f)) (kp : PySem.W.keepIn X.K (.ref f) = true)
    (bnd : Binds X.K fd ps []) (pass : Passes CX X E) (ha : PA X (e :: es) t)
    (hdb : (x == ("__debug__" : Str)) = false := by decide)
    (he : starEach (e :: es) X.env = (false, eval e X.env) :: starEach es X.env := by rfl)
    (hpl : (backTo pos (starEach es X.env)).any (·.1) = false := by rfl) :
    PE X (.Call (.Name x p) (e :: es) [] pos) (fun σ H Q => t σ H fun vs H1 => sp vs H1 Q E) := by
  refine ⟨fun pins s σ H Q I h => ?_⟩
  refine wpAny_Call_Name_kw (ld_glob I hg hm ?_ hdb)
  refine PySem.W.callWith_K (h₀ := X.base) I.ok.mod.kin kp ?_ he hpl
  refine thn (ha.run pos pins s σ H _ I h) fun us s1 z => ?_
  obtain ⟨vs, H1, I1, r, q⟩ := z
  exact ⟨I1.kIn, run_fnG F gd room bnd pass I1 r q⟩
end
/-! ### repr of a list or a tuple of data -/
section
variable {X : Cx}
def rRepr (K : PySem.W.Frag) : List V → Hp → VK → Prop := fun xs H Q => ∃ (a : Addr) (d : PyData),
  xs = [.ref a] ∧ Dp K H (.ref a) d ∧ d.showable = true ∧ d.hasDict = false ∧ d.depth ≤ 60 ∧
  d.shown.length ≤ sizeLine ∧ Q (.str d.shown) H
theorem call_repr (gd : X.A.guards = some []) (hu : X.A.units + 64 < cLine) :
    CallR X (.builtin "repr") (rRepr X.K) := by
  intro pins s σ H xs us Q I r h
  obtain ⟨a, d, rfl, hd, hs, hn, hp, hz, q⟩ := h
  obtain ⟨u, rfl, ru⟩ := vals1 r
  cases (show u = Value.ref a from ru)
  obtain ⟨as, R⟩ := Dp.reads I d (.ref a) (.ref a) hd rfl
  refine repr_of_reads' (h₀ := s.heap) R hs (PyData.noDict_hsm hn) gd (by omega) (fun _ _ e => e) ?_ hz
  exact fun h' t tk kept => ⟨.str d.shown, H, I.kept kept, ⟨t, rfl⟩, q⟩
end
/-! ### the law's own call -/
theorem law_callG {P : Program} {w : World} {K : PySem.W.Frag} {mg mb : Str → Option Value} {CX : CXT} {k : Nat}
    {fa a : Addr} {fd : FuncData} {x : Str} {sp : Sp} {s₁ : Shared} {vs : List Value} {ns : List Int}
    (inK : K.In s₁.heap) (hns : s₁.heap.Ns mainGlobals mg) (hb : s₁.heap.Ns builtinsNs mb)
    (hbb : ∀ x : Str, x ≠ "__name__" → mb x = bootBuiltins x) (hlim : s₁.heap.NoLimit) (hgen : s₁.gens = #[])
    (ha : s₁.heap.get? a = some { cls := .type "list", data := .seq vs.toArray }) (hi : IntsAre vs ns)
    (hl : ns.length ≤ sizeLine) (room : Room k callerA)
    (F : ∀ base : Heap, K.In base → base.Ns mainGlobals mg → FnG P w K mg base CX k fa fd [x] sp)
    (bnd : ∀ (s : Shared) (u : Value), BindsTo s fd ⟨[u], []⟩ [(x, u)])
    (hsp : ∀ H : Hp, Only H → SqL K H a (ns.map V.int) → sp [.ref a] H (fun v _ => v = .bl true) fun _ _ _ => False)
    (hCX : ∀ H e s', CX [] H s₁ (fun _ _ _ => False) e s' → False) :
    codeAny (model P w) callerA (.call (.ref fa) ⟨[.ref a], []⟩)
      (fun r s' => r = .ok (.ret (.bool true)) ∧ OldK s₁.heap s'.heap ∧ s'.os = s₁.os ∧ AllBare s'.gens) s₁ := by
  have rv := vals_ints hi
  have key : ∀ H : Hp, Only H → SqL K H a (ns.map V.int) → HOk P w H s₁.heap → (∀ b, H b ≠ none → b = a) →
      (H a ≠ none → K.lookup a = none) → codeAny (model P w) callerA (.call (.ref fa) ⟨[.ref a], []⟩)
        (fun r s' => r = .ok (.ret (.bool true)) ∧ OldK s₁.heap s'.heap ∧ s'.os = s₁.os ∧ AllBare s'.gens) s₁ := by
    intro H only sq ok one notK
    have at_a : ∀ {b : Addr} {u : HO}, H b = some u → b = a := fun {b u} q => one b fun z => by
      rw [q] at z
      cases z
    have plain : ∀ {b : Addr} {m : Str → Option Value}, s₁.heap.Ns b m → (hidT s₁.heap H).Ns b m := by
      rintro b m ⟨o, es, ep, e, d, r⟩
      refine ⟨o, es, ep, hidT_get e ?_, d, r⟩
      cases q : H b with
      | none => rfl
      | some u =>
        cases at_a q
        cases ha.symm.trans e
        have bad : Data.seq vs.toArray _ = Data.dict es ep := d
        cases bad
    have kb : K.In (hidT s₁.heap H) := fun b o e => hidT_get (inK b o e) (by
      cases q : H b with
      | none => rfl
      | some u =>
        cases at_a q
        have z := notK (by rw [q]; simp)
        rw [e] at z
        cases z)
    have md : Mod K mg (hidT s₁.heap H) :=
      ⟨kb, plain hns, ⟨mb, plain hb, hbb⟩, hlim.elim fun mc z => ⟨mc, plain z.1, z.2⟩⟩
    have e0 : Env0 P w K mg (hidT s₁.heap H) callerA [] s₁ H :=
      ⟨rfl, md, fun b o e => of_hidT e, Nat.le_of_eq (hidT_size _ _), trivial, (by intro b z; cases z), ok, .of_eq hgen⟩
    have run := (F _ kb (plain hns)).go callerA [] s₁ H ⟨[.ref a], []⟩ [.ref a] [.ref a] _ _ rfl room e0
      (bnd s₁ (.ref a)) (.cons rfl .nil) (hsp H only sq)
    refine codeAny_mono run fun out s' h => ?_
    rcases out with e | fl
    · exact (hCX H e s' h).elim
    · cases fl with
      | next => exact h.elim
      | brk => exact h.elim
      | cont => exact h.elim
      | ret u =>
        obtain ⟨v, H', os, bare, un, ok', r', q⟩ := h
        cases (show v = .bl true from q)
        cases (show u = Value.bool true from r')
        refine ⟨rfl, OldK.of_keep fun b o e => ?_, os, bare⟩
        rcases only b with z | ⟨ob, xs, z⟩
        · exact un.keep b o e z (by intro y; cases y) (by intro y; cases y)
        · have z2 := un.frzs b ob _ z
          obtain ⟨e1, _⟩ := ok b _ z
          obtain ⟨e2, _⟩ := ok' b _ z2
          rw [e] at e1
          cases e1
          exact e2
  cases hk : K.lookup a with
  | some o =>
    have e := inK a o hk
    rw [ha] at e
    cases e
    refine key (fun _ => none) (fun _ => .inl rfl) ?_ ?_ ?_ ?_
    · exact .inr ⟨_, vs.toArray, _, hk, rfl, rfl, rfl, by rw [List.size_toArray, hi.length]; exact hl, by simpa using rv⟩
    · intro b u z
      have z' : (none : Option HO) = some u := z
      cases z'
    · exact fun b z => absurd rfl z
    · exact fun z => absurd rfl z
  | none =>
    let ob : Obj := { cls := .type "list", data := .seq vs.toArray }
    let H : Hp := fun b => if b = a then some (.frz ob (.lst (ns.map V.int))) else none
    have here : H a = some (.frz ob (.lst (ns.map V.int))) := if_pos rfl
    have away : ∀ b, b ≠ a → H b = none := fun b z => if_neg z
    refine key H (fun b => ?_) (.inl (.inr ⟨ob, here⟩)) (fun b u z => ?_) (fun b z => ?_) fun _ => hk
    · by_cases hb : b = a
      · subst hb
        exact .inr ⟨_, _, here⟩
      · exact .inl (away b hb)
    · by_cases hb : b = a
      · subst hb
        rw [here] at z
        cases z
        exact ⟨ha, by rw [List.length_map]; exact hl, vs, _, rv, ha⟩
      · rw [away b hb] at z
        cases z
    · by_cases hb : b = a
      · exact hb
      · exact absurd (away b hb) z
theorem walk_ofG {l : PySem.W.OpenLaw} {n k : Nat} {q : Program} {loose : List Str} {XP : (Str → Option Value) → Heap → Prop}
    {YP : World → Heap → Prop} {d : DefRec} {K : Params → PySem.W.Frag} {CX : World → CXT} {sp : World → Sp} {x : Str}
    (hn : l.most = some n) (hn2 : n ≤ sizeLine) (hdf : d.params.defaults = []) (room : Room k callerA)
    (hY : ∀ (w : World) (h : Heap), YP w h → (K w.params).In h)
    (F : ∀ (w : World) (mg : Str → Option Value) (fa : Addr) (h : Heap), (K w.params).In h → h.Ns mainGlobals mg →
      mg d.name = some (.ref fa) → ∃ fd : FuncData, (∀ (s : Shared) (u : Value), BindsTo s fd ⟨[u], []⟩ [(x, u)]) ∧
        ∀ base : Heap, (K w.params).In base → base.Ns mainGlobals mg → FnG l.prog w (K w.params) mg base (CX w) k fa fd [x] (sp w))
    (hsp : ∀ (w : World) (H : Hp) (a : Addr) (ns : List Int), ns.length ≤ n → Only H → SqL (K w.params) H a (ns.map V.int) →
      sp w [.ref a] H (fun v _ => v = .bl true) fun _ _ _ => False)
    (hCX : ∀ (w : World) (H : Hp) (s : Shared) (e : Value) (s' : Shared), CX w [] H s (fun _ _ _ => False) e s' → False) :
    PySem.W.WalkO q loose XP YP l.row.toRowW d [] (fun f vs => PySem.call f vs) := by
  refine Att.attach_call hn hdf fun w s₀ s₁ mg mb fa o pm cd doc a vs ns G Y _ _ _ hmg hobj hints hlen hgen => ?_
  have kx := hY w _ Y
  obtain ⟨fd, bnd, hF⟩ := F w mg fa _ kx G.T.g hmg
  exact law_callG kx G.T.g G.T.b G.T.builtins G.T.nolimit hgen hobj hints (Nat.le_trans hlen hn2) room hF bnd
    (fun H only sq => hsp w H a ns hlen only sq) fun H e s' => hCX w H s₁ e s'
end My
/-! try: .. except (A, B, C) as e: caught = e: the error is held by a name behind the clause, and isinstance is asked of it there -/
namespace My
open PySem PySem.Spec PyProof.Rows L2
/-- an error of the class cls, caught, as an object that is tracked -/
def Err (cls : Value) (a : Addr) : HO :=
  .ext fun h => ∃ (oe : Obj) (vs : Array Value), h.get? a = some oe ∧ Zc cls none oe ∧ oe.data = .fields vs
theorem err_ok {P : Program} {w : World} {H : Hp} {h : Heap} {a : Addr} {cls : Value} {oe : Obj} {vs : Array Value}
    (e : h.get? a = some oe) (z : Zc cls none oe) (d : oe.data = .fields vs) : ObjOk P w H h a (Err cls a) :=
  ⟨⟨oe, vs, e, z, d⟩, ⟨oe, e⟩, fun _ _ ⟨o, v, q, r⟩ k => ⟨o, v, k o q, r⟩⟩
section
variable {X : Cx} {pins : List (Addr × Obj)} {σ : L2.St} {H : Hp} {s : Shared}
/-- an object of ours that was not tracked is tracked from now on -/
theorem track {a : Addr} {oe : Obj} {vs : Array Value} {cls : Value} (I : Inv X pins σ H s)
    (ha : s.heap.get? a = some oe) (hz : Zc cls none oe) (hd : oe.data = .fields vs) (na : H a = none)
    (new : X.s_0.heap.get? a = none) (nL : a ≠ X.env.locals) (np : ∀ p ∈ X.pn ++ pins, p.1 ≠ a) :
    Inv X pins σ (upd H a (Err cls a)) s := by
  have apart : ∀ {b : Addr} {o : HO}, H b = some o → b ≠ a := fun q => ne_of_none q na
  refine ⟨I.ok, I.os, I.bare, ?_, I.loc, I.cell, ?_, ?_, ?_, ?_, I.len⟩
  · refine ⟨I.base.keep, I.base.slot, fun b o e n x => ?_, I.base.there, fun b xs q => ?_, fun b o u q => ?_, fun b ps q => ?_⟩
    · have nb : b ≠ a := fun z => by
        rw [z, new] at e
        cases e
      rw [upd_ne nb]
      exact I.base.free b o e n x
    · have t := I.base.tups b xs q
      rw [upd_ne (apart t)]
      exact t
    · have t := I.base.frzs b o u q
      rw [upd_ne (apart t)]
      exact t
    · obtain ⟨more, t⟩ := I.base.tbls b ps q
      exact ⟨more, by rw [upd_ne (apart t)]; exact t⟩
  · rw [upd_ne nL.symm]
    exact I.free
  · intro x c e
    have nc : c ≠ a := fun z => by
      obtain ⟨v, ob, e1, e2⟩ := I.cell x c e
      rw [z, ha] at e1
      cases e1
      rw [hd] at e2
      cases e2
    rw [upd_ne nc]
    exact I.freeC x c e
  · intro p hp
    obtain ⟨e, n, ne, nf, d⟩ := I.pin p hp
    exact ⟨e, by rw [upd_ne (np p hp)]; exact n, ne, nf, d⟩
  · intro b u e
    by_cases hb : b = a
    · subst hb
      rw [upd_same] at e
      cases e
      exact err_ok ha hz hd
    · rw [upd_ne hb] at e
      refine (I.hok b u e).stay (fun c v _ q => q) (fun c q => ?_) fun c xs q => ?_
      · rw [upd_ne (apart q)]
        exact q
      · rw [upd_ne (apart q)]
        exact q
end
/-- what the clause wishes: the error is of one of the classes, has no dict of its own; slot j holds it behind, slot i is empty -/
def wKeep (K : PySem.W.Frag) (c1 c2 c3 : Addr) (i j : Nat) (D : Ends) : WX := fun cls d σ H =>
  d = none ∧ PySem.W.exmAny K cls [.ref c1, .ref c2, .ref c3] = some true ∧
  ∀ a, H a = none → D.nx (((σ.set i (some (.ref a))).set j (some (.ref a))).set i none) (upd H a (Err cls a))
theorem fly_keep {B h h' : Heap} {l : List Env} {a : Addr} {Z : Obj → Prop} (k : ∀ b o, h.get? b = some o → h'.get? b = some o)
    (f : HandSPX.FlyingZ B l a Z h) : HandSPX.FlyingZ B l a Z h' := by
  obtain ⟨f1, f2, f3, oe, vs, T, oT, ts, e1, z, d, v, bT, ne, e2, d2, t⟩ := f
  exact ⟨fun b o e => k b o (f1 b o e), f2, Heap.FunFrames.of_keeps (fun b o e _ => ⟨o, k b o e, rfl⟩) f3,
    oe, vs, T, oT, ts, k _ _ e1, z, d, v, bT, ne, k _ _ e2, d2, t⟩
/-- x of the module holds c -/
structure Glb (X : Cx) (x : Str) (c : Addr) : Prop where
  g : Gl X x
  m : X.mg x = some (.ref c)
  d : (x == ("__debug__" : Str)) = false
section
variable {X : Cx} {x1 x2 x3 n y : Str} {c1 c2 c3 : Addr} {i j : Nat} {body : List Stmt} {p1 p2 p3 pt pa py pn' pos pos' : Pos} {tb : WX → TS} {kk : Nat}
theorem ps_try_keep (hs : X.stack = X.env :: X.outer) (hf : X.env.frame = some X.env.locals) (hex : X.ex = [])
    (hN : X.N.Nodup) (hi : X.N[i]? = some n) (hj : X.N[j]? = some y) (hln : X.env.kindOf n = some .local)
    (hly : X.env.kindOf y = some .local) (G1 : Glb X x1 c1) (G2 : Glb X x2 c2) (G3 : Glb X x3 c3)
    (dn : (n == ("__debug__" : Str)) = false) (dc : (n == ("__classdict__" : Str)) = false)
    (sw : swapsWith (.Name n pn') (some (.Name y py)) pa.line X.env = pure false)
    (hb : ∀ (W : WX) (pn : List (Addr × Obj)) (xe : Value → Shared → Prop), Takes (X.tr pn xe) W →
      PassesOwn (model X.prog X.w) X.A X.env xe → PSs (X.tr pn xe) body (tb W)) :
    PS X (.Try body [.ExceptHandler (some (.Tuple [.Name x1 p1, .Name x2 p2, .Name x3 p3] kk pt)) (some n)
      [.Assign [.Name y py] (.Name n pn') pa] pos'] [] [] pos) (fun D σ H => tb (wKeep X.K c1 c2 c3 i j D) D σ H) := by
  refine ⟨fun pins s σ H D I h => ?_⟩
  have ok := I.ok
  have fr0 : X.A.frames = some (X.env :: X.outer) := by rw [ok.frames, hs]
  have locn : Loc X.env.scope n := .inl hln
  let hds : List ExceptHandler := [.ExceptHandler (some (.Tuple [.Name x1 p1, .Name x2 p2, .Name x3 p3] kk pt)) (some n)
      [.Assign [.Name y py] (.Name n pn') pa] pos']
  let M := model X.prog X.w
  let caught : Value → Shared → Prop := fun e s1 => wpAny M X.A (noteFrame e X.env) (fun _ s2 =>
    wpAny M X.A (setFlight e none) (fun _ s3 => wpAny M X.A (handleBy e X.env hds) (SP X pins D) X.xe s3) X.xe s2) X.xe s1
  have tk : Takes (X.tr (X.pn ++ pins) caught) (wKeep X.K c1 c2 c3 i j D) := by
    intro u s' xx
    obtain ⟨a, B, sI, pins', σ', H', cls, d, rfl, J', nb, up, sky, na, os, ag, rfl, any, yes⟩ := xx
    have J : Inv X pins σ' H' sI := J'.ofTry ok
    have sky' : Sky B (X.env :: X.outer) a (Zc cls none) X.env.locals s'.heap := by rw [← hs]; exact sky
    show wpAny M X.A (noteFrame (.ref a) X.env) _ _ _
    refine Sky.land Zc.steady fr0 hf sky' fun h3 fl3 up3 => ?_
    have J3 : Inv X pins σ' H' { s' with heap := h3 } := J.landed nb fl3.1 (up.trans up3) os ag
    obtain ⟨oe3, vs3, he3, hz3, hd3⟩ := fl3.there
    have nfr : a ∉ frs (X.env :: X.outer) := fun hm => by
      obtain ⟨_, o', e', bad⟩ := fl3.2.2.1.mem hm
      rw [he3] at e'
      cases e'
      exact bad _ hd3
    have nL : a ≠ X.env.locals := fun z => nfr (List.mem_filterMap.mpr ⟨X.env, List.mem_cons_self, by rw [hf, z]⟩)
    have nF : a ∉ X.fs := fun hm => by
      obtain ⟨e, he, q⟩ := List.mem_filterMap.mp hm
      exact nfr (List.mem_filterMap.mpr ⟨e, List.mem_cons_of_mem _ he, q⟩)
    have newI : sI.heap.get? a = none := by
      cases q : sI.heap.get? a with
      | none => rfl
      | some o =>
        have z := nb a o q (by rw [hs]; exact nfr)
        rw [fl3.2.1] at z
        cases z
    have new0 : X.s_0.heap.get? a = none := by
      cases q : X.s_0.heap.get? a with
      | none => rfl
      | some o =>
        obtain ⟨o', e'⟩ := J.base.there a o q (by rw [hex]; intro z; cases z)
        rw [newI] at e'
        cases e'
    have apart : ∀ p ∈ X.pn ++ pins, p.1 ≠ a := fun p hp z => by
      have e := (J.pin p hp).1
      rw [z, newI] at e
      cases e
    have S3 := J3.suite he3 hd3 na nL nF
    refine wpAny_handleBy_cons (codeAny_handlers_test ?_) (by intro q; cases q)
    refine wpAny_Tuple ?_
    refine wpAny_items_cons (ld_glob S3 G1.g G1.m ?_ G1.d)
    refine wpAny_items_cons (ld_glob S3 G2.g G2.m ?_ G2.d)
    refine wpAny_items_cons (ld_glob S3 G3.g G3.m ?_ G3.d)
    refine wpAny_items_nil ⟨(show 3 ≤ sizeLine by decide), ?_⟩
    let h4 : Heap := h3.push { cls := .type "tuple", data := .seq [Value.ref c1, .ref c2, .ref c3].toArray }
    have kp : ∀ b o, h3.get? b = some o → h4.get? b = some o := fun _ _ e => Heap.get?_push_of_some _ e
    have fl4 : HandSPX.FlyingZ B (X.env :: X.outer) a (Zc cls none) h4 := fly_keep kp fl3
    have up4 : sI.heap.UpToSlots h4 := (up.trans up3).trans (Heap.UpToSlots.of_keeps kp)
    have J4 : Inv X pins σ' H' { s' with heap := h4 } := J.landed nb fl4.1 up4 os ag
    have LT : PySem.W.Looks M h4 (typeOf (.ref a)) cls := fun A Q E s k q =>
      wpAny_typeOf_ref (k _ _ (kp _ _ he3)) (by rw [hz3.1]; exact q)
    have LM := PySem.W.exm_tup3 (M := M) J4.kIn LT (Heap.get?_push_size h3 rfl) any
    refine LM.here ?_
    refine codeAny_handlers_suite_as ?_
    refine HandSPX.lands_againZ fl4 fun h5 fl5 up5 => ?_
    have J5 : Inv X pins σ' H' { s' with heap := h5 } := J.landed nb fl5.1 (up4.trans up5) os ag
    obtain ⟨oe5, vs5, he5, hz5, hd5⟩ := fl5.there
    have S5 := J5.suite he5 hd5 na nL nF
    have lenN : X.N.length = σ'.length := J.len.symm
    refine store_ok (X := X.suite a ((a, oe5) :: (X.pn ++ pins))) (v := .ref a) S5 hN hi locn rfl (fun s6 S6 => ?_) (.inr hln)
    have lti : i < σ'.length := by
      rw [← lenN]
      exact (List.getElem?_eq_some_iff.mp hi).1
    have got : (σ'.set i (some (V.ref a)))[i]? = some (some (V.ref a)) := by rw [List.getElem?_set_self lti]
    let D' : Ends := { nx := fun σ2 H2 => σ2 = (σ'.set i (some (.ref a))).set j (some (.ref a)) ∧ H2 = H', rt := fun _ _ => False, bk := fun _ _ => False, ct := fun _ _ => False }
    have suite : PSs (X.suite a ((a, oe5) :: (X.pn ++ pins))) [.Assign [.Name y py] (.Name n pn') pa] (tAsg (tVar i) (gName j)) :=
      pss_one (ps_set (i := j) hN hj (.inl hly) (pe_var hi (.inl hln) dn dc) sw (.inr hly))
    refine wpAny_mono (suite.run [] s6 _ H' D' S6 ⟨_, got, rfl, rfl⟩) (fun f s7 hsp => ?_) (fun _ _ z => False.elim z)
    cases f with
    | brk => exact hsp.elim fun _ z => z.elim fun _ z => z.2.elim
    | cont => exact hsp.elim fun _ z => z.elim fun _ z => z.2.elim
    | ret u => exact hsp.elim fun _ z => z.elim fun _ z => z.elim fun _ z => z.2.2.elim
    | next =>
      obtain ⟨σ7, H7, S7, e7, eH⟩ := hsp
      subst e7
      subst H7
      have keepP : ∀ p ∈ X.pn ++ ((a, oe5) :: pins), s7.heap.get? p.1 = some p.2 ∧ H' p.1 = none ∧ p.1 ≠ X.env.locals ∧ p.1 ∉ X.fs ∧ ∀ v, p.2.data ≠ .cell v := by
        intro p hp
        refine S7.pin p (List.mem_append_left _ ?_)
        rcases List.mem_append.mp hp with z | z
        · exact List.mem_cons_of_mem _ (List.mem_append_left _ z)
        · rcases List.mem_cons.mp z with z | z
          · rw [z]
            exact List.mem_cons_self
          · exact List.mem_cons_of_mem _ (List.mem_append_right _ z)
      have J7 : Inv X ((a, oe5) :: pins) ((σ'.set i (some (.ref a))).set j (some (.ref a))) H' s7 :=
        ⟨ok, S7.os, S7.bare, S7.base, S7.loc, S7.cell, S7.free, S7.freeC, keepP, S7.hok, S7.len⟩
      refine gone_ok J7 hN hi hln fun s8 J8 => ?_
      obtain ⟨e8, n8, _, _, _⟩ := J8.pin (a, oe5) (List.mem_append_right _ List.mem_cons_self)
      have J9 : Inv X pins (((σ'.set i (some (.ref a))).set j (some (.ref a))).set i none) H' s8 :=
        ⟨ok, J8.os, J8.bare, J8.base, J8.loc, J8.cell, J8.free, J8.freeC, fun p hp => J8.pin p (by
          rcases List.mem_append.mp hp with z | z
          · exact List.mem_append_left _ z
          · exact List.mem_append_right _ (List.mem_cons_of_mem _ z)), J8.hok, J8.len⟩
      exact ⟨_, _, track J9 e8 hz5 hd5 na new0 nL apart, yes a na⟩
  refine wpAny_Try_except ?_
  refine wpAny_mono ((hb (wKeep X.K c1 c2 c3 i j D) (X.pn ++ pins) caught tk PassesOwn.looking).run [] s σ H D (I.toTry _) h) (fun f s1 hsp => ?_) (fun e s1 he => he)
  cases f with
  | next => exact wpAny_execs_nil (hsp.elim fun σ' z => z.elim fun H' z => ⟨σ', H', z.1.ofTry ok, z.2⟩)
  | brk => exact hsp.elim fun σ' z => z.elim fun H' z => ⟨σ', H', z.1.ofTry ok, z.2⟩
  | cont => exact hsp.elim fun σ' z => z.elim fun H' z => ⟨σ', H', z.1.ofTry ok, z.2⟩
  | ret u =>
    obtain ⟨v, σ', H', J, r, q⟩ := hsp
    exact ⟨v, σ', H', J.ofTry ok, r, q⟩
end
end My
/-! isinstance of a caught error that a name holds -/
namespace My
open PySem PySem.Spec PyProof.Rows L2
section
variable {X : Cx}
theorem err_inst {pins : List (Addr × Obj)} {σ : L2.St} {H : Hp} {s : Shared} {a D : Addr} (I : Inv X pins σ H s)
    (h : H a = some (Err (.ref D) a)) : ∃ oe, PySem.W.InstAt s.heap a oe D none := by
  obtain ⟨⟨oe, vs, e, z, d⟩, _⟩ := I.hok a _ h
  obtain ⟨oc, od, da, sl⟩ := oe
  obtain ⟨z1, z2⟩ := z
  dsimp only at z1 z2 d
  subst z1 z2 d
  exact ⟨_, e, rfl, rfl, trivial⟩
def rIsErr (K : PySem.W.Frag) : List V → Hp → VK → Prop := fun xs H Q => ∃ (a D : Addr) (c : V) (cv : Value) (b : Bool),
  xs = [.ref a, c] ∧ H a = some (Err (.ref D) a) ∧ ExcC K D ∧ ClsV c cv ∧ PySem.W.kitOne K (.ref D) cv = some b ∧ Q (.bl b) H
theorem call_isErr : CallR X (.builtin "isinstance") (rIsErr X.K) := by
  intro pins s σ H xs us Q I r h
  obtain ⟨a, D, c, cv, b, rfl, ha, C, kc, e, q⟩ := h
  obtain ⟨u1, u2, rfl, r1, r2⟩ := vals2 r
  cases (show u1 = Value.ref a from r1)
  have e2 := kc.eq r2
  subst e2
  obtain ⟨oe, J⟩ := err_inst I ha
  exact PySem.W.kia_one (PySem.W.handS_kitx_exc C.hg C.hk C.hs C.hd C.ha C.hn C.ht C.hm) I.kIn J e (fun z => nomatch z)
    fun tk => ⟨.bl b, H, I.tok tk, rfl, q⟩
def rIsErrT (K : PySem.W.Frag) : List V → Hp → VK → Prop := fun xs H Q => ∃ (a D tp : Addr) (cs : List V) (us : List Value) (b : Bool),
  xs = [.ref a, .ref tp] ∧ H a = some (Err (.ref D) a) ∧ ExcC K D ∧ H tp = some (.tup cs) ∧ Paired ClsV cs us ∧
  PySem.W.kitAny K (.ref D) us = some b ∧ Q (.bl b) H
theorem call_isErrT : CallR X (.builtin "isinstance") (rIsErrT X.K) := by
  intro pins s σ H xs us Q I r h
  obtain ⟨a, D, tp, cs, ws, b, rfl, ha, C, hT, kc, e, q⟩ := h
  obtain ⟨u1, u2, rfl, r1, r2⟩ := vals2 r
  cases (show u1 = Value.ref a from r1)
  cases (show u2 = Value.ref tp from r2)
  obtain ⟨oe, J⟩ := err_inst I ha
  obtain ⟨_, its, rv, o, h1, h2, n, h3⟩ := (show ObjOk X.prog X.w H s.heap tp (.tup cs) from I.hok tp _ hT)
  have e3 := ClsV.all kc rv
  subst e3
  obtain ⟨oc, od, dt, sl⟩ := o
  dsimp only at h2 h3
  subst h2 h3
  exact PySem.W.kia_tup (PySem.W.handS_kitx_exc C.hg C.hk C.hs C.hd C.ha C.hn C.ht C.hm) I.kIn J h1 e (fun z => nomatch z)
    fun tk => ⟨.bl b, H, I.tok tk, rfl, q⟩
end
theorem kit_own {K : PySem.W.Frag} {D C : Addr} {b : Bool} (ne : (Value.ref D == Value.ref C) = false) (h1 : PySem.W.isClsIn K C = true)
    (h2 : PySem.W.typeIn K (.ref C) = some (.type "type")) (h3 : PySem.W.subIn K (.ref D) (.ref C) = some b) :
    PySem.W.kitOne K (.ref D) (.ref C) = some b := by
  have e : ((PySem.W.clsIn K C).isSome && PySem.W.typeIn K (.ref C) == some (.type "type")) = true := by
    have z : (PySem.W.clsIn K C).isSome = true := h1
    rw [z, h2] <;> rfl
  unfold PySem.W.kitOne
  rw [ne, if_neg Bool.false_ne_true]
  show (if _ then _ else _) = _
  rw [if_pos e]
  exact h3
theorem kit_self {K : PySem.W.Frag} {D : Addr} : PySem.W.kitOne K (.ref D) (.ref D) = some true := if_pos (beq_self_eq_true _)
theorem kit_typ {K : PySem.W.Frag} {D : Addr} {T : String} {b : Bool} (h : PySem.W.kitMeta T = true)
    (h3 : PySem.W.subIn K (.ref D) (.type T) = some b) : PySem.W.kitOne K (.ref D) (.type T) = some b := by
  have ne : (Value.ref D == Value.type T) = false := rfl
  unfold PySem.W.kitOne
  rw [ne, if_neg Bool.false_ne_true]
  show (if _ then _ else _) = _
  rw [if_pos h]
  exact h3
end My
/-! rules whose reading names the written part, said with a letter for it (within a comprehension's element) -/
namespace My
open PySem PySem.Spec PyProof.Rows L2
section
variable {X : Cx} {K : PySem.W.Frag}
theorem ix_listK (e : X.K = K) : IxR X (rIxL K) := e ▸ ix_list
theorem ix_tupK (e : X.K = K) : IxR X (rIxT K) := e ▸ ix_tup
theorem sl_listK (e : X.K = K) : SlR X (rSlL K) := e ▸ sl_list
theorem sl_tupK (e : X.K = K) : SlR X (rSlT K) := e ▸ sl_tup
def rLenSeq (K : PySem.W.Frag) : List V → Hp → VK → Prop := fun xs H Q => ∃ p ys, xs = [.ref p] ∧ (SqL K H p ys ∨ SqT K H p ys) ∧ Q (.int ys.length) H
theorem len_seqK (e : X.K = K) : CallR X (.builtin "len") (rLenSeq K) := e ▸ call_len_seq
def rListOf (K : PySem.W.Frag) : List V → Hp → VK → Prop := fun xs H Q => ∃ p ys, xs = [.ref p] ∧ (SqL K H p ys ∨ SqT K H p ys) ∧ ∀ l, H l = none → Q (.ref l) (upd H l (.lst ys))
theorem list_ofK (e : X.K = K) : CallR X (.type "list") (rListOf K) := e ▸ call_list_of
theorem in_seqK (e : X.K = K) : OpR X (compareOp .In) (rIn K false) := e ▸ op_in_seq
theorem notIn_seqK (e : X.K = K) : OpR X (compareOp .NotIn) (rIn K true) := e ▸ op_notIn_seq
theorem eqDK (e : X.K = K) (hu : X.A.units + 64 < cLine) : OpR X (compareOp .Eq) (rEqD K) := e ▸ op_eqD hu
theorem neDK (e : X.K = K) (hu : X.A.units + 64 < cLine) : OpR X (compareOp .NotEq) (rNeD K) := e ▸ op_neD hu
theorem ps_nox {st : Stmt} {t : TS} (h : PS X.nox st t) : PS X st t := ⟨fun pins s σ H D I hw =>
  wpAny_mono (h.run pins s σ H D (I.wish _) hw) (fun f s' q => q.unwish) fun _ _ z => False.elim z⟩
theorem pe_K {T : String} {r : V → List V → Hp → VK → Prop} {to : TE} {t : TA} {ex : Expr} (e : X.K = K) (h : PE X ex (tBM X.K T r to t)) : PE X ex (tBM K T r to t) := e ▸ h
theorem pe_K0 {T : String} {r : V → List V → Hp → VK → Prop} {to : TE} {ex : Expr} (e : X.K = K) (h : PE X ex (tBM0 X.K T r to)) : PE X ex (tBM0 K T r to) := e ▸ h
theorem pi_listK {tg l : Expr} {tl : TE} (e : X.K = K) (h : PE X l tl) : PI X tg l (iList K tl) := e ▸ pi_list h
end
end My
/-! sets of texts whose walk is known, as far as its order goes: add -/
namespace My
open PySem PySem.Spec PyProof.Rows L2
def keyS (e : Int × Value) : Str := match e.2 with
  | .str x _ => x
  | _ => Str.empty
def GoodS (w : World) (e : Int × Value) : Prop := ∃ x t, e.2 = Value.str x t ∧ e.1 = hashStr w x
/-- at a stands a set of just the texts xs -/
structure SetT (w : World) (h : Heap) (a : Addr) (xs : List Str) : Prop where
  nd : xs.Nodup
  at_ : ∃ o es ep t, h.get? a = some o ∧ o.ExactSet ∧ o.data = .set es ep t ∧ (∀ e ∈ es.toList, GoodS w e) ∧
    (es.toList.map keyS).Perm xs ∧ es.size < scanBound ∧ t.fits es.size = true ∧ Ris t.place.toList ∧
    (w.params.followText "set-order" = true ∨ t.led = true)
section
variable {P : Program} {w : World} {A : Around} {E : Value → Shared → Prop} {s : Shared} {a : Addr} {xs : List Str}
theorem SetT.keep {h h' : Heap} (R : SetT w h a xs) (k : ∀ o, h.get? a = some o → h'.get? a = some o) : SetT w h' a xs := by
  obtain ⟨nd, o, es, ep, t, ho, r⟩ := R
  exact ⟨nd, o, es, ep, t, k o ho, r⟩
theorem goodS_elems {l : List (Int × Value)} (g : ∀ e ∈ l, GoodS w e) : ElemsOf (strKind P w) l := fun e he => by
  obtain ⟨x, t, h1, h2⟩ := g e he
  exact ⟨⟨x, by rw [h1]; exact strKind_is P w x t, h2⟩, by rw [h1]; rfl⟩
theorem goodS_is {e : Int × Value} (g : GoodS w e) (k : Str) : (strKind P w).is k e.2 = true ↔ keyS e = k := by
  obtain ⟨x, t, h1, _⟩ := g
  unfold keyS
  rw [h1]
  constructor
  · intro h
    have h' : Value.isStrOf k (.str x t) = true := h
    obtain ⟨u, hu⟩ := Value.isStrOf_shape h'
    cases hu
    rfl
  · rintro rfl
    exact strKind_is P w x t
theorem SetT.setOf (R : SetT w s.heap a xs) : s.heap.SetOf (strKind P w) a (fun k => decide (k ∈ xs)) xs.length := by
  obtain ⟨nd, o, es, ep, t, ho, hx, hd, g, pm, hb, hf, _⟩ := R
  refine ⟨o, es, ep, t, ho, hx, hd, goodS_elems g, fun k => ?_, hb, hf, ?_⟩
  · rw [decide_eq_true_eq, ← pm.mem_iff, List.mem_map]
    constructor
    · rintro ⟨e, he, q⟩
      exact ⟨e, he, (goodS_is (g e he) k).2 q⟩
    · rintro ⟨e, he, q⟩
      exact ⟨e, he, (goodS_is (g e he) k).1 q⟩
  · rw [← pm.length_eq, List.length_map, Array.length_toList]
/-- the state behind a store into the set's object -/
theorem storeS_at {h : Heap} {o : Obj} {es es' : Array (Int × Value)} {ep : Nat} {t t' : SetTable} (ho : h.get? a = some o) (hd : o.data = .set es ep t) :
    (h.update a (Obj.putSet es' t')).get? a = some { o with data := .set es' (ep + 1) t' } := L2.store_at ho hd
theorem tailS {give : Bool → Sem Unit} (hg : ∀ (b : Bool) (s₁ : Shared) (Q' : Unit → Shared → Prop), Q' () s₁ → wpAny (model P w) A (give b) Q' E s₁)
    {o : Obj} {es : Array (Int × Value)} {ep : Nat} {t : SetTable} (ho : s.heap.get? a = some o) (hex : o.ExactSet) (hd : o.data = .set es ep t)
    {es1 : Array (Int × Value)} {t2 : SetTable} {ys : List Str} (nd : ys.Nodup) (g1 : ∀ e ∈ es1.toList, GoodS w e) (pm1 : (es1.toList.map keyS).Perm ys)
    (hb1 : es1.size < scanBound) (hf2 : t2.fits es1.size = true) (hr : Ris t2.place.toList)
    (hl : w.params.followText "set-order" = true ∨ t2.led = true) {dummy : Bool} {R : Option Bool → Shared → Prop}
    (hR : ∀ h', Heap.SameBut a s.heap h' → SetT w h' a ys → R (some true) { s with heap := h' }) :
    wpAny (model P w) A (do
        storeSet a es1 t2
        if (!dummy && t2.tooFull) = true then do
            give (relayAll t2 es1 (SetTable.grown es1.size)).2.2
            storeSet a (relayAll t2 es1 (SetTable.grown es1.size)).1 (relayAll t2 es1 (SetTable.grown es1.size)).2.1
            pure (some true)
          else pure (some true)) R E s := by
  have first : (s.heap.update a (Obj.putSet es1 t2)).get? a = some { o with data := .set es1 (ep + 1) t2 } := storeS_at ho hd
  have b1 : Heap.SameBut a s.heap (s.heap.update a (Obj.putSet es1 t2)) := Heap.SameBut.update s.heap a (Obj.putSet es1 t2)
  refine wpAny_bind (wpAny_storeSet_of ho hd ?_ (fits_of_scanBound hb1))
  by_cases full : (!dummy && t2.tooFull) = true
  · rw [if_pos full]
    have pm := relayAll_perm t2 es1 (SetTable.grown es1.size)
    have hf3 := relayAll_fits t2 es1 (SetTable.grown es1.size)
    have hr3 := relayAll_ris t2 es1 (SetTable.grown es1.size)
    have hl3 := relayAll_led t2 es1 (SetTable.grown es1.size)
    revert pm hf3 hr3 hl3
    generalize relayAll t2 es1 (SetTable.grown es1.size) = Z
    obtain ⟨es2, t3, gv⟩ := Z
    intro pm hf3 hr3 hl3
    dsimp only at pm hf3 hr3 hl3 ⊢
    have sz : es2.size = es1.size := by
      rw [← Array.length_toList, ← Array.length_toList]
      exact pm.length_eq
    have hb2 : es2.size < scanBound := by rw [sz]; exact hb1
    refine wpAny_bind (hg _ _ _ ?_)
    refine wpAny_bind (wpAny_storeSet_of first rfl ?_ (fits_of_scanBound hb2))
    refine wpAny_pure (hR _ (b1.trans (Heap.SameBut.update _ a _)) ?_)
    refine ⟨nd, _, es2, _, t3, storeS_at first rfl, hex, rfl, fun e he => g1 e (pm.mem_iff.mp he), (pm.map keyS).trans pm1, hb2, hf3, hr3, ?_⟩
    rcases hl with z | z
    · exact .inl z
    · exact .inr (by rw [← z]; exact hl3)
  · rw [if_neg full]
    exact wpAny_pure (hR _ b1 ⟨nd, _, es1, _, t2, first, hex, rfl, g1, pm1, hb1, hf2, hr, hl⟩)
/-- the set with x -/
def withT (xs : List Str) (x : Str) : List Str := if x ∈ xs then xs else xs ++ [x]
theorem withT_nd {xs : List Str} {x : Str} (h : xs.Nodup) : (withT xs x).Nodup := by
  unfold withT
  split
  · exact h
  · rename_i n
    exact List.nodup_append.mpr ⟨h, List.nodup_cons.mpr ⟨by simp, List.nodup_nil⟩, fun a ha b hb => by
      cases List.mem_singleton.mp hb
      exact fun z => n (z ▸ ha)⟩
theorem addS_hashed {x : Str} {tk : Tok} {Q : Bool → Shared → Prop} (R : SetT w s.heap a xs) (room : xs.length + 1 < scanBound)
    (hQ : ∀ (b : Bool) h', Heap.SameBut a s.heap h' → SetT w h' a (withT xs x) → Q b { s with heap := h' }) :
    wpAny (model P w) A (setAddHashed a (.str x tk) ((strKind P w).hash x)) Q E s := by
  obtain ⟨nd, o, es, ep, t, ho, hex, hd, g, pmx, hb, hf, hr, hl⟩ := R
  have key : (strKind P w).is x (.str x tk) = true := strKind_is P w x tk
  have sc : (Value.str x tk).scannable = true := rfl
  have elems : ElemsOf (strKind P w) es.toList := goodS_elems g
  unfold setAddHashed setAddHashedIn
  refine wpAny_holding (wpAny_bind (wpAny_setState_of ho hd hf ?_))
  dsimp only
  rw [byScan_of sc hb elems]
  simp only [↓reduceIte]
  unfold setAddByScan
  refine wpAny_bind (wpAny_bind (wpAny_rule (wpAny_bind (wpAny_setScan_of key ho hd hf elems ?_))))
  cases found : List.findIdx? (fun e => (strKind P w).is x e.2) es.toList with
  | some j =>
    obtain ⟨hj, pj, _⟩ := List.findIdx?_eq_some_iff_getElem.mp found
    have mem : x ∈ xs := by
      rw [← pmx.mem_iff, List.mem_map]
      exact ⟨_, List.getElem_mem hj, (goodS_is (g _ (List.getElem_mem hj)) x).1 pj⟩
    dsimp only
    refine wpAny_pure (wpAny_pure (hQ _ s.heap (Heap.SameBut.refl a s.heap) ?_))
    unfold withT
    rw [if_pos mem]
    exact ⟨nd, o, es, ep, t, ho, hex, hd, g, pmx, hb, hf, hr, hl⟩
  | none =>
    have nmem : x ∉ xs := fun z => by
      rw [← pmx.mem_iff, List.mem_map] at z
      obtain ⟨e, he, q⟩ := z
      have bad := List.findIdx?_eq_none_iff.mp found e he
      rw [(goodS_is (P := P) (g e he) x).2 q] at bad
      cases bad
    dsimp only
    have pm := layNew_perm t es ((strKind P w).hash x) (.str x tk)
    have hf1 := layNew_fits t es ((strKind P w).hash x) (.str x tk)
    have hr1 := layNew_ris t es ((strKind P w).hash x) (.str x tk) hr
    have hl1 := layNew_led t es ((strKind P w).hash x) (.str x tk)
    revert pm hf1 hr1 hl1
    generalize layNew t es ((strKind P w).hash x) (.str x tk) = Z
    obtain ⟨es1, t1, dummy, gv⟩ := Z
    intro pm hf1 hr1 hl1
    dsimp only at pm hf1 hr1 hl1 ⊢
    rw [Array.toList_push] at pm
    have g1 : ∀ e ∈ es1.toList, GoodS w e := fun e he => by
      rcases List.mem_append.mp (pm.mem_iff.mp he) with z | z
      · exact g e z
      · cases List.mem_singleton.mp z
        exact ⟨x, tk, rfl, rfl⟩
    have pk : (es1.toList.map keyS).Perm (xs ++ [x]) := by
      have q := pm.map keyS
      rw [List.map_append] at q
      exact q.trans (pmx.append (List.Perm.refl [x]))
    have e1 : withT xs x = xs ++ [x] := if_neg nmem
    have nd1 : (xs ++ [x]).Nodup := by
      rw [← e1]
      exact withT_nd nd
    have hb1 : es1.size < scanBound := by
      have z := pk.length_eq
      rw [List.length_map, Array.length_toList, List.length_append] at z
      have y : [x].length = 1 := rfl
      omega
    have led1 : w.params.followText "set-order" = true ∨ t1.led = true := hl.imp id fun z => by rw [hl1]; exact z
    have give : ∀ (m : String) (b : Bool) {s₁ : Shared} {Q' : Unit → Shared → Prop}, Q' () s₁ → wpAny (model P w) A (match b with | true => rule m | false => pure ()) Q' E s₁ := by
      intro m b s₁ Q' q
      cases b
      · exact wpAny_pure q
      · exact wpAny_rule q
    have fin : ∀ h', Heap.SameBut a s.heap h' → SetT w h' a (xs ++ [x]) → Q true { s with heap := h' } := fun h' sb r => hQ true h' sb (by rw [e1]; exact r)
    refine wpAny_bind (give _ _ ?_)
    split
    · refine wpAny_bind ?_
      rw [hashByValue_scannable 8 sc]
      refine wpAny_pure (tailS (fun b s₁ Q' q => give _ b q) ho hex hd nd1 g1 pk hb1 ?_ ?_ ?_ fun h' sb r => wpAny_pure (fin h' sb r))
      · split
        · first | exact hf1 | exact SetTable.fits_plain_off hf1
        · exact hf1
      · split <;> exact hr1
      · split <;> exact led1
    · refine wpAny_bind (wpAny_pure ?_)
      simp only [↓reduceIte]
      exact tailS (fun b s₁ Q' q => give _ b q) ho hex hd nd1 g1 pk hb1 hf1 hr1 led1 fun h' sb r => wpAny_pure (fin h' sb r)
end
end My
/-! sorted of texts, any number of them: of lists and of sets; set.add, a new set -/
namespace My
open PySem PySem.Spec PyProof.Rows L2
/-! ### the order of texts -/
def sv : Value → Str
  | .str x _ => x
  | _ => Str.empty
def ltS (v u : Value) : Bool := decide ((sv v).cps.toList < (sv u).cps.toList)
theorem swoS : SrtO.Swo ltS := by
  refine ⟨fun x y h => ?_, fun x y z h1 h2 => ?_⟩
  · have a := of_decide_eq_true (p := (sv x).cps.toList < (sv y).cps.toList) h
    exact decide_eq_false (p := (sv y).cps.toList < (sv x).cps.toList) fun b => List.lt_irrefl _ (List.lt_trans a b)
  · have a := of_decide_eq_false (p := (sv y).cps.toList < (sv x).cps.toList) h1
    have b := of_decide_eq_false (p := (sv z).cps.toList < (sv y).cps.toList) h2
    refine decide_eq_false (p := (sv z).cps.toList < (sv x).cps.toList) fun c => ?_
    exact List.not_lt.mpr (List.le_trans (List.not_lt.mp a) (List.not_lt.mp b)) c
theorem strs_mem : ∀ {vs : List Value} {ss : List Str}, StrsAre vs ss → ∀ v ∈ vs, ∃ i t, v = Value.str i t
  | _, _, .nil, v, h => by cases h
  | _, _, .cons n t r, v, h => by
    rcases List.mem_cons.mp h with e | h
    · exact ⟨n, t, e⟩
    · exact strs_mem r v h
theorem strs_sv : ∀ {vs : List Value}, (∀ v ∈ vs, ∃ i t, v = Value.str i t) → StrsAre vs (vs.map sv)
  | [], _ => .nil
  | v :: vs, h => by
    obtain ⟨i, t, e⟩ := h v List.mem_cons_self
    subst e
    exact .cons i t (strs_sv fun u hu => h u (List.mem_cons_of_mem _ hu))
theorem sv_strs : ∀ {vs : List Value} {ss : List Str}, StrsAre vs ss → vs.map sv = ss
  | _, _, .nil => rfl
  | _, _, .cons n t r => congrArg (n :: ·) (sv_strs r)
section
variable {P : Program} {w : World} {A : Around} {E : Value → Shared → Prop} {s : Shared}
theorem strs_sortable {a : Addr} {vs : List Value} {ss : List Str} (hs : StrsAre vs ss) (h2 : 2 ≤ vs.length) : SrtO.SortableO P w A s a vs ltS := by
  intro h' _
  refine ⟨oneType', fun Q E hq => ?_, fun p q hm hm' => ?_⟩
  · match vs, hs, h2 with
    | v1 :: v2 :: rest, hs, _ =>
      rw [keyKind_strs hs]
      exact wpAny_pure hq
    | [v], _, h => exact absurd h (by simp)
    | [], _, h => exact absurd h (by simp)
  · obtain ⟨a, t, e⟩ := strs_mem hs _ hm
    obtain ⟨b, u, e'⟩ := strs_mem hs _ hm'
    show wpAny (model P w) A (keyLt' oneType' p.1 q.1) (fun r s' => s' = _ ∧ r = ltS p.1 q.1) (fun _ _ => False) _
    rw [e, e', keyLt'_oneType]
    exact oneLt_str ⟨rfl, rfl⟩
/-- rising, perhaps with equal ones -/
def Sorted (ys : List Str) : Prop := ys.Pairwise fun x y => ¬ y.cps.toList < x.cps.toList
theorem strs_out {vs out : List Value} {ss : List Str} (hs : StrsAre vs ss) (h1 : SrtO.Srtd ltS out) (hb : SrtO.Stb ltS out vs) :
    StrsAre out (out.map sv) ∧ (out.map sv).Perm ss ∧ Sorted (out.map sv) := by
  refine ⟨strs_sv fun v hv => strs_mem hs v (hb.perm.mem_iff.mp hv), ?_, ?_⟩
  · have q := hb.perm.map sv
    rw [sv_strs hs] at q
    exact q
  · exact List.pairwise_map.mpr (h1.imp fun {x y} h => of_decide_eq_false (p := (sv y).cps.toList < (sv x).cps.toList) h)
theorem addS {a : Addr} {xs : List Str} {x : Str} {tk : Tok} {Q : Value → Shared → Prop} (R : SetT w s.heap a xs) (room : xs.length + 1 < scanBound)
    (hQ : ∀ h', Heap.SameBut a s.heap h' → SetT w h' a (withT xs x) → Q .none { s with heap := h', toks := s.toks + 1 }) :
    wpAny (model P w) A (call (.builtin "set.add") [.ref a, .str x tk]) Q E s := by
  have so : s.heap.SetOf (strKind P w) a _ _ := R.setOf
  refine wpAny_call_entry F.slot_set_add so.typeIs F.entry_set_add ?_ (F.args_set_add_2 _ _)
  unfold Builtin.«set.add» Builtin.Frozenset.oneOther Builtin.Frozenset.addrOf setAdd
  simp only [List.isEmpty_nil, bind_assoc]
  refine wpAny_bind (wpAny_pure ?_)
  try dsimp only
  refine wpAny_bind (wpAny_pure ?_)
  try dsimp only
  refine wpAny_bind (wpAny_holding (wpAny_bind ((strKind P w).pyHash (strKind_is P w x tk) ?_)))
  refine addS_hashed (s := { s with toks := s.toks + 1 }) R room fun b h' sb r => ?_
  show wpAny _ _ (ret Value.none) _ _ _
  exact wpAny_pure ⟨_, rfl, hQ h' sb r⟩
/-- the object of a new set -/
def newS (w : World) : Obj := { cls := .type "set", dict := none, data := .set #[] 0 (.fresh 0 0 (!w.params.followText "set-order")) }
theorem newS_ok {h : Heap} : SetT w (h.push (newS w)) h.objs.size [] := by
  refine ⟨List.nodup_nil, _, #[], 0, _, Heap.get?_push_size _ rfl, ⟨rfl, rfl, rfl⟩, rfl, fun e he => by simp at he, by simp, by decide, rfl, List.Pairwise.nil, ?_⟩
  show _ ∨ (!w.params.followText "set-order") = true
  cases w.params.followText "set-order"
  · exact .inr rfl
  · exact .inl rfl
theorem newSet_run {Q : Value → Shared → Prop} (h : Q (.ref s.heap.objs.size) { s with heap := s.heap.push (newS w) }) :
    wpAny (model P w) A (newSet (.type "set")) Q E s := by
  unfold newSet setsByText
  refine wpAny_bind (wpAny_bind (wpAny_askSetting (wpAny_pure ?_)))
  show wpAny _ _ (newObj _ _) _ _ _
  unfold newObj
  exact wpAny_bind (wpAny_alloc (wpAny_pure h))
/-- sorted(a set of texts) -/
theorem sortedT {a : Addr} {xs : List Str} {Q : Value → Shared → Prop} (R : SetT w s.heap a xs) (hh : A.handled = none)
    (hQ : ∀ s' p (out : Array Value) (c : Nat) (ys : List Str), (∀ b o, s.heap.get? b = some o → s'.heap.get? b = some o) → s'.gens = s.gens → s'.os = s.os →
      s.heap.objs.size ≤ p → s'.heap.get? p = some (seqObj "list" out c) → StrsAre out.toList ys → Sorted ys → ys.Perm xs → Q (.ref p) s') :
    wpAny (model P w) A (call (.builtin "sorted") [.ref a]) Q E s := by
  obtain ⟨nd, o, es, ep, t, ho, hex, hd, g, pmx, hb, hf, hr, hl⟩ := R
  refine Calls.call_function_entry kind_sorted plain_sorted entry_sorted (args_sorted1 _) ?_
  unfold Builtin.«sorted»
  refine wpAny_bind (m := checkCount "sorted" 1 1 _) (wpAny_pure ?_)
  refine wpAny_bind (collect_set (A := A.in1) hh ⟨o, ho, hex.1, hd⟩ hf hb hr hl fun s1 vs k1 hz g1 o1 pm => ?_)
  have small : vs.length < scanBound := by
    rw [pm.length_eq, List.length_map, Array.length_toList]
    exact hb
  have line : vs.length ≤ sizeLine := by
    have e : scanBound ≤ sizeLine := by decide
    omega
  have hs : StrsAre vs (vs.map sv) := strs_sv fun v hv => by
    obtain ⟨e, he, q⟩ := List.mem_map.mp (pm.mem_iff.mp hv)
    obtain ⟨x, tk, h1, _⟩ := g e he
    exact ⟨x, tk, by rw [← q]; exact h1⟩
  have pk : (vs.map sv).Perm xs := by
    have q := pm.map sv
    rw [List.map_map] at q
    exact q.trans pmx
  refine wpAny_bind (wpAny_newList ?_ line)
  have hoL : (s1.heap.push (seqObj "list" vs.toArray 0)).get? s1.heap.objs.size = some (seqObj "list" vs.toArray 0) := Heap.get?_push_size _ rfl
  refine wpAny_bind (wpAny_holding (wpAny_call_entry slot_list_sort ⟨_, hoL, rfl⟩ entry_list_sort
    (SrtO.list_sort_ord swoS hoL line (fun h2 => strs_sortable hs h2) fun out a1 a2 => ⟨.none, rfl, ?_⟩) (args_list_sort _)))
  obtain ⟨b1, b2, b3⟩ := strs_out hs a1 a2
  obtain ⟨c, hc⟩ := sortedHeap_at (vs := vs) (out := out.toArray) hoL
  refine wpAny_pure ⟨_, rfl, hQ _ s1.heap.objs.size out.toArray c (out.map sv) (fun b u e => ?_) g1 o1 hz hc (by simpa using b1) b3 (b2.trans pk)⟩
  have q := k1 b u e
  have lt := Heap.lt_size q
  show (sortedHeap (s1.heap.push (seqObj "list" vs.toArray 0)) s1.heap.objs.size vs out.toArray).get? b = some u
  rw [sortedHeap_old (Nat.ne_of_lt lt) (by rw [size_push']; exact Nat.lt_succ_of_lt lt)]
  exact Heap.get?_push_of_some _ q
end
/-! ### over the layer -/
def SetTx (w : World) (a : Addr) (xs : List Str) : HO := .ext fun h => SetT w h a xs
theorem setTx_ok {P : Program} {w : World} {H : Hp} {h : Heap} {a : Addr} {xs : List Str} (R : SetT w h a xs) : ObjOk P w H h a (SetTx w a xs) := by
  obtain ⟨o, es, ep, t, ho, _⟩ := R.at_
  exact ⟨R, ⟨o, ho⟩, fun _ _ r k => r.keep k⟩
def rSortedT (w : World) : List V → Hp → VK → Prop := fun vs H Q => ∃ (a : Addr) (xs : List Str), vs = [.ref a] ∧ H a = some (SetTx w a xs) ∧
  ∀ (ys : List Str) (p : Addr), ys.Perm xs → Sorted ys → H p = none → Q (.ref p) (upd H p (.lst (ys.map V.str)))
/-- sorted(xs), texts, any number of them -/
def rSortedL (K : PySem.W.Frag) : List V → Hp → VK → Prop := fun vs H Q => ∃ (a : Addr) (xs : List Str), vs = [.ref a] ∧ SqL K H a (xs.map V.str) ∧
  ∀ (ys : List Str) (p : Addr), ys.Perm xs → Sorted ys → H p = none → Q (.ref p) (upd H p (.lst (ys.map V.str)))
section
variable {X : Cx}
theorem cr_sortedT (hc : X.calm = true) : CallR X (.builtin "sorted") (rSortedT X.w) := by
  intro pins s σ H vs us Q I r h
  obtain ⟨a, xs, rfl, ha, q⟩ := h
  obtain ⟨u, rfl, ru⟩ := vals1 r
  cases (show u = Value.ref a from ru)
  obtain ⟨R, _⟩ := I.hok a _ ha
  refine sortedT R (I.ok.hd hc) fun s' p out c ys k g o sz hp hs srt pm => ?_
  have np := I.hok.fresh sz
  have big : (ys.map V.str).length ≤ sizeLine := by
    rw [List.length_map, pm.length_eq]
    obtain ⟨_, es, _, _, _, _, _, _, _, hb, _, hn⟩ := R.setOf (P := X.prog) (s := s)
    have e : scanBound ≤ sizeLine := by decide
    omega
  have un : Un (frs X.stack) [] H (upd H p (.lst (ys.map V.str))) s.heap s'.heap := Un.laid k sz np
  have okH := I.hok.laid (a := p) (o := .lst (ys.map V.str)) k sz ⟨big, out.toList, c, vals_of_strs hs, hp⟩
  exact ⟨.ref p, _, I.call' o un okH (by rw [g]; exact I.bare) (fun _ z => nomatch z), rfl, q ys p pm srt np⟩
theorem cr_sortedL : CallR X (.builtin "sorted") (rSortedL X.K) := by
  intro pins s σ H vs us Q I r h
  obtain ⟨a, xs, rfl, hs, q⟩ := h
  obtain ⟨its, rv, hl, hz⟩ := I.list hs
  rw [Vals.ref1 r]
  have hi := rv.strs
  refine SrtO.sorted_ord swoS hl.isList (by rw [← rv.length]; exact hz) (fun h2 h₁ a' _ _ => strs_sortable hi h2) fun out h1 h2 => ?_
  obtain ⟨k1, k2, k3⟩ := strs_out hi h1 h2
  obtain ⟨ep, he⟩ := PyProof.Rows.sortedAll_at s.heap its out.toArray
  have len : ((out.map sv).map V.str).length ≤ sizeLine := by
    rw [List.length_map, k2.length_eq]
    rw [List.length_map] at hz
    exact hz
  have J := I.laid (o := .lst ((out.map sv).map V.str)) (t' := s.toks) (fun _ _ => PyProof.Rows.sortedAll_old) (Nat.le_succ _) ⟨len, out, ep, vals_of_strs k1, he⟩
  exact ⟨.ref _, _, J, rfl, q _ _ k2 k3 (I.hok.fresh (Nat.le_succ _))⟩
end
end My
/-! set(a list of texts), any number of them -/
namespace My
open PySem PySem.Spec PyProof.Rows L2
/-- each once, in the order of their coming -/
def distT (xs : List Str) : List Str := xs.foldl withT []
theorem distT_snoc (xs : List Str) (x : Str) : distT (xs ++ [x]) = withT (distT xs) x := by
  unfold distT
  rw [List.foldl_append]
  rfl
theorem withT_mem {xs : List Str} {x y : Str} : y ∈ withT xs x ↔ y ∈ xs ∨ y = x := by
  unfold withT
  split
  · rename_i h
    exact ⟨.inl, fun z => z.elim id fun e => e ▸ h⟩
  · rw [List.mem_append, List.mem_singleton]
theorem withT_len (xs : List Str) (x : Str) : (withT xs x).length ≤ xs.length + 1 := by
  unfold withT
  split
  · omega
  · rw [List.length_append]
    exact Nat.le_refl _
theorem foldT_mem {y : Str} : ∀ (xs acc : List Str), y ∈ xs.foldl withT acc ↔ y ∈ acc ∨ y ∈ xs
  | [], acc => by simp
  | x :: r, acc => by
    rw [List.foldl_cons, foldT_mem r, withT_mem, List.mem_cons, or_assoc]
theorem foldT_len : ∀ (xs acc : List Str), (xs.foldl withT acc).length ≤ acc.length + xs.length
  | [], acc => Nat.le_refl _
  | x :: r, acc => by
    have a := foldT_len r (withT acc x)
    have b := withT_len acc x
    rw [List.foldl_cons, List.length_cons]
    omega
theorem foldT_nd : ∀ (xs : List Str) {acc : List Str}, acc.Nodup → (xs.foldl withT acc).Nodup
  | [], _, h => h
  | _ :: r, _, h => foldT_nd r (withT_nd h)
theorem distT_mem {xs : List Str} {y : Str} : y ∈ distT xs ↔ y ∈ xs := (foldT_mem xs []).trans (by simp)
theorem distT_len (xs : List Str) : (distT xs).length ≤ xs.length := Nat.le_trans (foldT_len xs []) (by simp)
theorem distT_nd (xs : List Str) : (distT xs).Nodup := foldT_nd xs List.nodup_nil
section
variable {P : Program} {w : World} {A : Around} {E : Value → Shared → Prop} {s : Shared}
theorem updT {I : Addr} {fp wr : List Addr} {G : Array GenState → Array GenState → Prop} {n : Nat} {Pv : Nat → Value → Prop} {St : Nat → Shared → Prop} {R : Result → Shared → Prop}
    (W : WalksS P w A.in1 I fp wr G n Pv St) (d : Addr) (nf : d ∉ fp) (xs : List Str) (hn : n = xs.length) (room : xs.length + 1 < scanBound)
    (val : ∀ i v, Pv i v → ∃ x t, xs[i]? = some x ∧ v = .str x t) : ∀ (k i : Nat) (s : Shared), n - i = k → i ≤ n → St i s → SetT w s.heap d (distT (xs.take i)) →
      (∀ s', Moved (d :: wr) G s s' → SetT w s'.heap d (distT xs) → R (.ok (.ret .none)) s') → codeAny (model P w) A (.builtin "set.update.loop" ⟨[.ref d, .ref I], []⟩) R s := by
  have nw : d ∉ wr := fun z => nf (W.sub _ z)
  have up : ∀ b ∈ wr, b ∈ d :: wr := fun b z => List.mem_cons_of_mem _ z
  intro k
  induction k with
  | zero =>
    intro i s hk hi hst hS hR
    have e : xs.take i = xs := List.take_of_length_le (by omega)
    have hin : i = n := by omega
    subst hin
    rw [e] at hS
    refine codeAny_builtin F.entry_set_update_loop ?_
    rw [Around.under_plainId F.plain_set_update_loop _]
    exact wpAny_bind (m := pyNext (.ref I)) (W.done s _ _ hst fun s' m => wpAny_pure (hR s' (m.mono up) (hS.keep fun o z => m.heap d o nw z)))
  | succ k ih =>
    intro i s hk hi hst hS hR
    have lt : i < n := by omega
    refine codeAny_builtin F.entry_set_update_loop ?_
    rw [Around.under_plainId F.plain_set_update_loop _]
    refine wpAny_bind (m := pyNext (.ref I)) (W.item i s _ _ lt hst fun v s' pv hst' m => ?_)
    obtain ⟨x, t, hx, rfl⟩ := val i v pv
    have hS' : SetT w s'.heap d (distT (xs.take i)) := hS.keep fun o z => m.heap d o nw z
    refine wpAny_bind (m := holding [Value.str x t] (setAdd d (.str x t))) (wpAny_holding ?_)
    unfold setAdd
    refine wpAny_holding (wpAny_bind ((PySem.strKind P w).pyHash (k := x) (strKind_is _ _ _ _) ?_))
    have few := distT_len (xs.take i)
    rw [List.length_take] at few
    refine addS_hashed (s := { s' with toks := s'.toks + 1 }) hS' (by omega) fun _ h' sb new => ?_
    rw [← distT_snoc] at new
    have e : xs.take i ++ [x] = xs.take (i + 1) := by
      rw [List.take_add_one, hx]
      rfl
    rw [e] at new
    refine wpAny_pure ⟨plainId_quiet F.plain_set_update_loop _, ih (i + 1) _ (by omega) lt (W.frame _ s' _ _ hst' (Nat.le_succ _) fun b hb o z => ?_) new fun s2 m2 q2 => ?_⟩
    · exact (sb.2 b fun y => nf (y ▸ hb)).trans z
    · exact hR s2 (Moved.trans W.gtrans ((m.mono up).then_heap (Nat.le_succ _) fun b o hb z => (sb.2 b fun y => hb (y ▸ List.mem_cons_self)).trans z) m2) q2
theorem str_at : ∀ {vs : List Value} {ss : List Str}, StrsAre vs ss → ∀ (i : Nat) (v : Value), vs[i]? = some v → ∃ x t, ss[i]? = some x ∧ v = .str x t
  | _, _, .nil, i, v, h => by simp at h
  | _, _, .cons n t r, 0, v, h => ⟨n, t, rfl, (Option.some.inj h).symm⟩
  | _, _, .cons n t r, i + 1, v, h => str_at r i v h
theorem newS_at {h : Heap} {a : Addr} (ho : h.get? a = some (newS w)) : SetT w h a [] := by
  refine ⟨List.nodup_nil, _, #[], 0, _, ho, ⟨rfl, rfl, rfl⟩, rfl, fun e he => by simp at he, by simp, by decide, rfl, List.Pairwise.nil, ?_⟩
  show _ ∨ (!w.params.followText "set-order") = true
  cases w.params.followText "set-order"
  · exact .inr rfl
  · exact .inl rfl
theorem call_setT {a : Addr} {items : Array Value} (xs : List Str) {Q : Value → Shared → Prop} (hh : A.handled = none) (hl : s.heap.IsList a items) (hi : StrsAre items.toList xs) (room : xs.length + 1 < scanBound)
    (h : ∀ (h' : Heap) (tk : Nat), SetT w h' s.heap.objs.size (distT xs) → (∀ b o, s.heap.get? b = some o → h'.get? b = some o) → Q (.ref s.heap.objs.size) { s with heap := h', toks := tk }) :
    wpAny (model P w) A (call (.type "set") [.ref a]) Q E s := by
  have size : items.size = xs.length := by
    have z := hi.length
    rwa [Array.length_toList] at z
  obtain ⟨_, _, hmro⟩ := F.called_set.mro
  have m1 := F.called_set.made
  have m2 := F.called_set.sub
  refine wpAny_call (codeAny_of_tree (show wpAny _ _ (callAny (.type "set") _) _ _ _ from wpAny_pure ⟨Code.quiet_builtin _ (by decide +kernel), codeAny_builtin F.entry_type_call ?_⟩))
  rw [Around.under_plain (weight_type_call_type "set" [.ref a] []) rfl]
  have m3 := F.called_set.notType
  have m4 := F.called_set.canCreate
  have m5 := F.typeCall_set_1 (.ref a)
  repeat any_goals first | assumption | wp_step
  refine codeAny_mono (code_set_led1 (.ref a) (E := E) (Q₁ := fun v t => v = .ref s.heap.objs.size ∧ t = { s with heap := s.heap.push (newS w) }) ⟨rfl, rfl⟩) fun r t hr => ?_
  match r, hr with
  | .ok (.ret v), hr =>
    obtain ⟨rfl, rfl⟩ := hr
    have hS : (s.heap.push (newS w)).get? s.heap.objs.size = some (newS w) := Heap.get?_push_size _ rfl
    have hT : Shared.TypeIs { s with heap := s.heap.push (newS w) } (.ref s.heap.objs.size) "set" := ⟨_, hS, rfl⟩
    have m6 := F.called_set.init.lookup
    have m7 := F.called_set.init.bind (.ref s.heap.objs.size)
    repeat any_goals first | assumption | wp_step
    refine codeAny_mono (codeAny_call_builtin (R := wants (fun r t => r = .none ∧ ∃ h' tk, t = { s with heap := h', toks := tk } ∧ SetT w h' s.heap.objs.size (distT xs) ∧
        (∀ b o, s.heap.get? b = some o → h'.get? b = some o)) E) F.called_set.init.plain F.entry_set_init (check_set_init_1 hT ?_)) fun r t hr => ?_
    · obtain ⟨⟨oc, od, odt, osl⟩, ho, hcl, nl, hdl⟩ := hl
      simp only at hcl hdl
      subst hcl hdl
      have ho' := Heap.get?_push_of_some (newS w) ho
      have m8 := F.sub_list_set
      have m9 := F.sub_list_frozenset
      have ne : (Value.type "list" == Value.type "dict") = false := by decide
      have hl1 : (s.heap.push (newS w)).IsList a items := ⟨_, ho', rfl, nl, rfl⟩
      unfold Builtin.«set.__init__»
      unfold noKeywords Builtin.Frozenset.updateFrom
      generalize hg : pyIter = it
      wp_walk
      subst hg
      refine wpAny_pyIter_list hl1 (wpAny_bind (wpAny_runValue ?_))
      have la : a < s.heap.objs.size := Heap.lt_size ho
      have sz : (s.heap.push (newS w)).objs.size = s.heap.objs.size + 1 := Heap.size_push ..
      have na : a ≠ (s.heap.push (newS w)).objs.size := Nat.ne_of_lt (by rw [sz]; exact Nat.lt_succ_of_lt la)
      refine updT ((Walks.list (by simp [hh]) _ a na items).toS) s.heap.objs.size (fun z => ?_) xs size room (fun i v z => str_at hi i v (by rw [Array.getElem?_toList]; exact z)) (items.size - 0) 0 _ (by omega) (Nat.zero_le _)
        ⟨⟨_, Heap.get?_push_size _ rfl, rfl, rfl⟩, hl1.push _⟩ (newS_at (Heap.get?_push_of_some _ hS)) fun t m q => ?_
      · rcases List.mem_cons.mp z with y | y
        · exact absurd (y.trans sz) (Nat.ne_of_lt (Nat.lt_succ_self _))
        · exact absurd (List.mem_singleton.mp y) (Nat.ne_of_gt la)
      · obtain ⟨h', g', d', tk', o'⟩ := t
        cases (show g' = s.gens from m.gens)
        cases (show d' = s.drawn from m.drawn)
        cases (show o' = s.os from m.os)
        refine wpAny_pure (show wpAny _ _ (ret Value.none) _ _ _ from wpAny_pure ⟨rfl, h', tk', rfl, q, fun b o z => ?_⟩)
        have lb := Heap.lt_size z
        refine m.heap b o (fun y => ?_) (Heap.get?_push_of_some _ (Heap.get?_push_of_some _ z))
        rcases List.mem_cons.mp y with y | y
        · exact absurd y (Nat.ne_of_lt lb)
        · exact absurd ((List.mem_singleton.mp y).trans sz) (Nat.ne_of_lt (Nat.lt_succ_of_lt lb))
    · match r, hr with
      | .ok (.ret v), hr =>
        obtain ⟨rfl, h', tk, rfl, q, k⟩ := hr
        repeat any_goals first | assumption | wp_step
        exact h _ _ q k
      | .error e, hr => exact hr
  | .error e, hr => exact hr
end
/-- set(xs), texts -/
def rSetL (K : PySem.W.Frag) (w : World) : List V → Hp → VK → Prop := fun vs H Q => ∃ (a : Addr) (xs : List Str), vs = [.ref a] ∧ SqL K H a (xs.map V.str) ∧ xs.length + 1 < scanBound ∧
  ∀ p, H p = none → Q (.ref p) (upd H p (SetTx w p (distT xs)))
theorem cr_setL {X : Cx} (hc : X.calm = true) : CallR X (.type "set") (rSetL X.K X.w) := by
  intro pins s σ H vs us Q I r h
  obtain ⟨a, xs, rfl, hs, room, q⟩ := h
  obtain ⟨its, rv, hl, hz⟩ := I.list hs
  rw [Vals.ref1 r]
  refine call_setT xs (I.ok.hd hc) hl.isList (by simpa using rv.strs) room fun h' tk st k => ?_
  exact ⟨.ref _, _, I.laid (t' := tk) k (Nat.le_refl _) (setTx_ok st), rfl, q _ (I.hok.fresh (Nat.le_refl _))⟩
end My
/-! {e for t0 in i0 for t1 in i1}: a set of texts, by two clauses without tests -/
namespace My
open PySem PySem.Spec PyProof.Rows L2
abbrev SC (e t0 i0 t1 i1 : Expr) (b : Scope) (pos : Pos) : Expr := .SetComp e [⟨t0, i0, [], 0⟩, ⟨t1, i1, [], 0⟩] b pos
section
variable {P : Program} {w : World} {A : Around} {R : Result → Shared → Prop} {s : Shared} {e t0 i0 t1 i1 : Expr} {b : Scope} {pos : Pos} {j acc : Value} {v : Env}
theorem turn_o : compTurn (SC e t0 i0 t1 i1 b pos) 0 j acc v = (standAt i0.pos >>= fun _ => pyNext j >>= fun r => match r with
    | none => pure (.done .next)
    | some u => letOwnedTupleGo t0 j u >>= fun _ => assign t0 v u >>= fun _ => eval i1 v >>= fun x => standAt i1.pos >>= fun _ =>
      foldedSetIterable i1 v x >>= fun y => holding [y] (pyIter y) >>= fun k => runOwn (.compStart (SC e t0 i0 t1 i1 b pos) 1 k acc v) v >>= fun _ =>
      again (.compLoop (SC e t0 i0 t1 i1 b pos) 0 j acc v)) := by rfl
theorem turn_i : compTurn (SC e t0 i0 t1 i1 b pos) 1 j acc v = (standAt i1.pos >>= fun _ => pyNext j >>= fun r => match r with
    | none => pure (.done .next)
    | some u => letOwnedTupleGo t1 j u >>= fun _ => assign t1 v u >>= fun _ => (eval e v >>= fun x => standAt e.pos >>= fun _ =>
      call (.builtin "set.add") [acc, x] >>= fun _ => pure PUnit.unit) >>= fun _ => again (.compLoop (SC e t0 i0 t1 i1 b pos) 1 j acc v)) := by rfl
/-- one way of failing -/
abbrev nb (P : Program) (w : World) (A : Around) (v : Env) (R : Result → Shared → Prop) : Value → Shared → Prop := notedBy (model P w) A v fun x s' => R (.error x) s'
theorem loop_o (hs : ∀ x, foldedSetIterable i1 v x = pure x) (Z : Nat → Shared → Prop)
    (one : ∀ n s, Z n s → wpAny (model P w) A (pyNext j) (fun r s1 => match r with
      | none => R (.ok .next) s1
      | some u => wpAny (model P w) A (letOwnedTupleGo t0 j u) (fun _ s2 => wpAny (model P w) A (assign t0 v u) (fun _ s3 =>
          wpAny (model P w) A (eval i1 v) (fun x s4 => wpAny (model P w) A (pyIter x) (fun k s5 => codeAny (model P w) A (.compStart (SC e t0 i0 t1 i1 b pos) 1 k acc v)
            (fun r s6 => match r with
              | .ok _ => ∃ m, m < n ∧ Z m s6
              | .error _ => False) s5) (nb P w A v R) s4) (nb P w A v R) s3) (nb P w A v R) s2) (nb P w A v R) s1) (nb P w A v R) s)
    (n : Nat) (h : Z n s) : codeAny (model P w) A (.compLoop (SC e t0 i0 t1 i1 b pos) 0 j acc v) R s := by
  refine codeAny_loop rfl Z (fun n s hz => wpAny_noted (show wpAny _ _ (compTurn (SC e t0 i0 t1 i1 b pos) 0 j acc v) _ _ s from ?_)) n h
  rw [turn_o]
  refine wpAny_bind (wpAny_standAt (wpAny_bind (wpAny_mono (one n s hz) (fun r s1 q1 => ?_) fun _ _ z => z)))
  match r with
  | none => exact wpAny_pure q1
  | some u =>
    refine wpAny_bind (wpAny_mono q1 (fun _ s2 q2 => wpAny_bind (wpAny_mono q2 (fun _ s3 q3 => wpAny_bind (wpAny_mono q3 (fun x s4 q4 => ?_) fun _ _ z => z)) fun _ _ z => z)) fun _ _ z => z)
    refine wpAny_bind (wpAny_standAt (wpAny_bind (wpAny_of_eq (hs x) (wpAny_bind (wpAny_holding (wpAny_mono q4 (fun k s5 q5 => ?_) fun _ _ z => z))))))
    refine wpAny_bind (wpAny_runOwn ?_)
    rw [Around.mark_none]
    refine codeAny_mono q5 fun r s6 q6 => ?_
    match r with
    | .ok _ => exact wpAny_pure ⟨rfl, q6⟩
    | .error _ => exact q6.elim
theorem loop_i (Z : Nat → Shared → Prop)
    (one : ∀ n s, Z n s → wpAny (model P w) A (pyNext j) (fun r s1 => match r with
      | none => R (.ok .next) s1
      | some u => wpAny (model P w) A (letOwnedTupleGo t1 j u) (fun _ s2 => wpAny (model P w) A (assign t1 v u) (fun _ s3 =>
          wpAny (model P w) A (eval e v) (fun x s4 => wpAny (model P w) A (call (.builtin "set.add") [acc, x]) (fun _ s5 => ∃ m, m < n ∧ Z m s5)
            (nb P w A v R) s4) (nb P w A v R) s3) (nb P w A v R) s2) (nb P w A v R) s1) (nb P w A v R) s)
    (n : Nat) (h : Z n s) : codeAny (model P w) A (.compLoop (SC e t0 i0 t1 i1 b pos) 1 j acc v) R s := by
  refine codeAny_loop rfl Z (fun n s hz => wpAny_noted (show wpAny _ _ (compTurn (SC e t0 i0 t1 i1 b pos) 1 j acc v) _ _ s from ?_)) n h
  rw [turn_i]
  refine wpAny_bind (wpAny_standAt (wpAny_bind (wpAny_mono (one n s hz) (fun r s1 q1 => ?_) fun _ _ z => z)))
  match r with
  | none => exact wpAny_pure q1
  | some u =>
    refine wpAny_bind (wpAny_mono q1 (fun _ s2 q2 => wpAny_bind (wpAny_mono q2 (fun _ s3 q3 => ?_) fun _ _ z => z)) fun _ _ z => z)
    refine wpAny_bind (wpAny_bind (wpAny_mono q3 (fun x s4 q4 => wpAny_bind (wpAny_standAt (wpAny_bind (wpAny_mono q4 (fun _ s5 q5 => ?_) fun _ _ z => z)))) fun _ _ z => z))
    exact wpAny_pure (wpAny_pure ⟨rfl, q5⟩)
/-- the second clause begins -/
theorem start_i (h0 : codeAny (model P w) A (.compLoop (SC e t0 i0 t1 i1 b pos) 1 j acc v) R s)
    (h : wpAny (model P w) A (pyIter j) (fun k s1 => codeAny (model P w) A (.compLoop (SC e t0 i0 t1 i1 b pos) 1 k acc v) R s1) (nb P w A v R) s) :
    codeAny (model P w) A (.compStart (SC e t0 i0 t1 i1 b pos) 1 j acc v) R s := by
  refine codeAny_of_tree (wpAny_notedAt ?_)
  unfold compStart
  refine wpAny_bind (m := ask) (wpAny_askSetting (wpAny_ite ?_))
  split
  · first
      | exact wpAny_pure ⟨rfl, h0⟩
      | exact wpAny_bind (wpAny_pure (wpAny_pure ⟨rfl, h0⟩))
  · refine wpAny_bind (wpAny_rule ?_)
    refine wpAny_bind (m := standAt i1.pos) (wpAny_standAt (wpAny_bind (wpAny_mono h (fun k s1 q => wpAny_pure ⟨rfl, q⟩) fun _ _ z => z)))
end
end My
namespace My
open PySem PySem.Spec PyProof.Rows L2
section
variable {X : Cx}
/-- set.add over the layer -/
theorem addT_at {pins : List (Addr × Obj)} {σ : L2.St} {H : Hp} {s : Shared} {E : Value → Shared → Prop} {d : Addr} {xs : List Str} {c : Str} {u : Value} {Q : Value → Shared → Prop}
    (I : Inv X pins σ H s) (hd : H d = some (SetTx X.w d xs)) (room : xs.length + 1 < scanBound) (hu : RelV (.str c) u)
    (h : ∀ s', Inv X pins σ (upd H d (SetTx X.w d (withT xs c))) s' → Q .none s') :
    wpAny (model X.prog X.w) X.A (call (.builtin "set.add") [.ref d, u]) Q E s := by
  obtain ⟨tk, rfl⟩ : ∃ tk, u = .str c tk := hu
  refine addS (I.hok d _ hd).1 room fun h' sb new => ?_
  have ex : ∃ o, h'.get? d = some o := new.at_.elim fun o z => z.elim fun _ z => z.elim fun _ z => z.elim fun _ z => ⟨o, z.1⟩
  exact h _ (I.write (e := d) (t' := s.toks + 1) (by rw [hd]; trivial) (.inl rfl) (fun b o nb hb => (sb.2 b nb).trans hb) ex (setTx_ok new))
/-- {e for t0 in i0 for t1 in i1}, texts; d the new set; vs: all names of the block, vs1: those of the second target -/
def tSc2 (w : World) (wi : TI) (g : TG) (wi1 : TI) (g1 : TG) (te : TE) (vs vs1 : List Nat) : TE := fun σ H Q =>
  wi σ H fun J H1 => ∀ d, H1 d = none → ∃ W : Nat → Nat → Hp → Prop, (∃ m, W 0 m (upd H1 d (SetTx w d []))) ∧ ∀ i m G, W i m G →
    (J.stop i G ∧ Q (.ref d) G) ∨ (J.go i G ∧ ∃ Nx : Hp → Prop, (∀ G', Nx G' → ∃ n, n < m ∧ W (i + 1) n G') ∧
      ∀ x G', J.yld i G x G' → g x (wipe σ vs) G' fun τ G2 => wipe τ vs = wipe σ vs ∧ wi1 τ G2 fun J1 G3 =>
        ∃ U : Nat → Nat → Hp → Prop, (∃ m, U 0 m G3) ∧ ∀ j k G, U j k G → (J1.stop j G ∧ Nx G) ∨ (J1.go j G ∧ ∃ Ny : Hp → Prop, (∀ G', Ny G' → ∃ n, n < k ∧ U (j + 1) n G') ∧
          ∀ y G', J1.yld j G y G' → g1 y (wipe τ vs1) G' fun υ G5 => wipe υ vs1 = wipe τ vs1 ∧ te υ G5 fun z G6 =>
            ∃ (c : Str) (xs : List Str), z = .str c ∧ G6 d = some (SetTx w d xs) ∧ xs.length + 1 < scanBound ∧ Ny (upd G6 d (SetTx w d (withT xs c)))))
theorem pe_sc2 {e t0 i0 t1 i1 : Expr} {b : Scope} {own : List (Str × Nat)} {vs1 : List Nat} {pos : Pos} {wi wi1 : TI} {g g1 : TG} {te : TE}
    (hc : X.calm = true) (hN : X.N.Nodup) (hi : PI X t0 i0 wi) (ok : BlkOk X.N X.env.scope b own) (hv : ∀ i ∈ vs1, i ∈ own.map (·.2))
    (hg : ∀ (s : Shared) (H : Hp) (c : Addr) (cl : List (Str × Addr)) (fp : List Addr), PG (X.blk s H b (compEnvC b cl c X.env) fp) t0 g)
    (hi1 : ∀ (s : Shared) (H : Hp) (c : Addr) (cl : List (Str × Addr)) (fp : List Addr), PI (X.blk s H b (compEnvC b cl c X.env) fp) t1 i1 wi1)
    (hg1 : ∀ (s : Shared) (H : Hp) (c : Addr) (cl : List (Str × Addr)) (fp : List Addr), PG (X.blk s H b (compEnvC b cl c X.env) fp) t1 g1)
    (he : ∀ (s : Shared) (H : Hp) (c : Addr) (cl : List (Str × Addr)) (fp : List Addr), PE (X.blk s H b (compEnvC b cl c X.env) fp) e te)
    (hs : ∀ x, foldedSetIterable i0 X.env x = pure x := by intro _; rfl) (hs1 : ∀ env x, foldedSetIterable i1 env x = pure x := by intro _ _; rfl) :
    PE X (SC e t0 i0 t1 i1 b pos) (tSc2 X.w wi g wi1 g1 te (own.map (·.2)) vs1) := by
  refine ⟨fun pins s σ H Q I h => ?_⟩
  rw [PpSet.eval_SetComp]
  have fr : ∀ y ∈ b.names, y.2 = .free → ∃ c, X.env.cells.lookup y.1 = some c := fun y hy z => I.ok.has _ ((ok.free y hy z).elim .inl .inr)
  refine wpAny_comprehension_free (use := none) rfl hs (closure_ok fr) ok.kind (fun y hy z => by rw [ok.uniq y hy, z])
    (thn (hi.run pins s σ H _ I h) fun xv s1 hx => thn hx fun itv s2 h2 => ?_)
  obtain ⟨it, fp, tn, J, H2, rfl, I2, T, st2, f2, q⟩ := h2
  refine newSet_run (newEnv_comp ?_)
  have nd : H2 s2.heap.objs.size = none := I2.hok.fresh (Nat.le_refl _)
  obtain ⟨W, ⟨m0, w0⟩, turn⟩ := q _ nd
  have kp : ∀ a o, s2.heap.get? a = some o → (s2.heap.push (newS X.w)).get? a = some o := fun a o z => Heap.get?_push_of_some _ z
  have I3 : Inv X pins σ (upd H2 s2.heap.objs.size (SetTx X.w s2.heap.objs.size [])) ({ s2 with heap := s2.heap.push (newS X.w) } : Shared) :=
    I2.laid (t' := s2.toks) kp (Nat.le_refl _) (setTx_ok newS_ok)
  have e3 : ({ s2 with heap := s2.heap.push (newS X.w) } : Shared).heap.objs.size = s2.heap.objs.size + 1 := Heap.size_push ..
  have below : ∀ c ∈ fp, c < s2.heap.objs.size := fun c hc => (T.obj _ _ st2 c hc).elim fun o z => Heap.lt_size z.1
  have f3 : ∀ c ∈ fp, FpOk X pins (upd H2 s2.heap.objs.size (SetTx X.w s2.heap.objs.size [])) c ∧ c < ({ s2 with heap := s2.heap.push (newS X.w) } : Shared).heap.objs.size := fun c hc =>
    ⟨⟨by rw [upd_ne (Nat.ne_of_lt (below c hc))]; exact (f2 c hc).1, (f2 c hc).2⟩, by rw [e3]; exact Nat.lt_succ_of_lt (below c hc)⟩
  have st3 : tn 0 ({ s2 with heap := s2.heap.push (newS X.w) } : Shared).heap := T.keep _ _ _ st2 fun a _ o z => kp a o z
  generalize s2.heap.objs.size = d at nd w0 turn I3 f3 ⊢
  generalize hs3 : ({ s2 with heap := s2.heap.push (newS X.w) } : Shared) = s3 at I3 f3 st3 ⊢
  generalize hH3 : upd H2 d (SetTx X.w d []) = H3 at I3 f3 w0
  have I4 := block_start I3 ok hN f3
  generalize hcl : cellsFrom (s3.heap.objs.size + 1) b.names (cloFrom X.env.cells b.names []) = cl at I4 ⊢
  have G0 := hg s3 H3 s3.heap.objs.size cl fp
  have J1 := hi1 s3 H3 s3.heap.objs.size cl fp
  have G1 := hg1 s3 H3 s3.heap.objs.size cl fp
  have E1 := he s3 H3 s3.heap.objs.size cl fp
  generalize hce : compEnvC b cl s3.heap.objs.size X.env = ce at I4 G0 J1 G1 E1
  have cL : ce.locals = s3.heap.objs.size := by rw [← hce]; rfl
  show codeAny _ _ (.compStart (SC e t0 i0 t1 i1 b pos) 0 (.ref it) (.ref d) (compEnvC b cl s3.heap.objs.size X.env)) (compPost (model X.prog X.w) X.A X.xe none (EP X pins σ Q) (.ref d) s3.heap.objs.size) { s3 with heap := pushCells (s3.heap.push { cls := .type "dict", data := .dict #[] }) b.names }
  rw [hce]
  generalize hs4 : ({ s3 with heap := pushCells (s3.heap.push { cls := .type "dict", data := .dict #[] }) b.names } : Shared) = s4 at I4 ⊢
  have st4 : tn 0 s4.heap := T.keep _ _ _ st3 fun a _ o z => by rw [← hs4]; exact pushCells_keeps _ _ _ _ (Heap.get?_push_of_some _ z)
  have n3 : ∀ c ∈ fp, H3 c = none := fun c hc => (f3 c hc).1.1
  -- what the block owes of the first iterator's own objects
  have own0 : ∀ {τ : L2.St} {G : Hp} {t : Shared}, Inv (X.blk s3 H3 b ce fp) [] τ G t → (∀ c ∈ fp, G c = none) → ∀ c ∈ fp, FpOk (X.blk s3 H3 b ce fp) [] G c := fun J hn c hc =>
    ⟨hn c hc, (J.ok.exf c hc).1, J.ok.exfs c hc, .inl hc, fun x a z => (J.ok.exf c hc).2 x a z, fun p hp => nomatch (show p ∈ ([] : List (Addr × Obj)) from hp)⟩
  have main : codeAny (model X.prog X.w) X.A (.compLoop (SC e t0 i0 t1 i1 b pos) 0 (.ref it) (.ref d) ce) (compPost (model X.prog X.w) X.A X.xe none (EP X pins σ Q) (.ref d) s3.heap.objs.size) s4 := by
    refine loop_o (hs1 ce) (fun n t => ∃ i G, Inv (X.blk s3 H3 b ce fp) [] (wipe σ (own.map (·.2))) G t ∧ tn i t.heap ∧ (∀ c ∈ fp, G c = none) ∧ W i n G) ?_ m0 ⟨0, H3, I4, st4, n3, w0⟩
    rintro n t5 ⟨i, G5, I5, st5, n5, w5⟩
    rcases turn i n G5 w5 with ⟨stop, fin⟩ | ⟨go, Nx, less, step⟩
    · refine thnF (T.done (X.blk s3 H3 b ce fp) rfl rfl rfl hc i [] t5 _ G5 (fun _ _ => False) I5 (own0 I5 n5) st5 stop) fun r t6 ⟨hr, I6⟩ => ?_
      subst hr
      have I7 : Inv X pins σ G5 t6 := I3.call' (ch := fp) I6.os I6.base I6.hok I6.bare fun c hc =>
        have f := (f3 c hc).1
        ⟨f.2.2.2.1, f.2.1, f.2.2.2.2.1, f.2.2.2.2.2⟩
      have nc : G5 s3.heap.objs.size = none := cL ▸ (show G5 ce.locals = none from I6.free)
      obtain ⟨m, hm, _⟩ := I6.loc
      obtain ⟨g0, g1, g2, g3, g4, g5⟩ := I3.fpOk (Nat.le_refl _) nc
      refine ⟨m, cL ▸ (show t6.heap.Ns ce.locals m from hm), fun h'' sb => ?_⟩
      exact ⟨.ref d, G5, I7.turned (t' := t6.toks) (fun a o na z => (sb.2 a na).trans z) g0 g1 g3 g4 g5, rfl, fin⟩
    · refine thnF (T.item (X.blk s3 H3 b ce fp) rfl rfl rfl hc i [] t5 _ G5 (fun _ _ => False) I5 (own0 I5 n5) st5 go) fun r t6 ⟨u, hr, h6⟩ => ?_
      subst hr
      refine thnF h6 fun _ t7 ⟨x, G7, I7, r7, y7, st7, n7⟩ => ?_
      refine thnF (G0.run _ t7 _ G7 x u _ (I7.pinned (own0 I7 n7) (T.obj _ _ st7)) r7 (step x G7 y7)) fun _ t8 ⟨τ, G8, I8, wp, q8⟩ => ?_
      refine thnF (J1.run _ t8 τ G8 _ I8 q8) fun xv t9 hx => thnF hx fun itv t10 h10 => ?_
      obtain ⟨it1, fp1, tn1, K1, G10, rfl, I10, T1, st10, f10, U, ⟨m1, u1⟩, turn1⟩ := h10
      have own1 : ∀ {G : Hp}, (∀ c ∈ fp1, G c = none) → ∀ c ∈ fp1, FpOk (X.blk s3 H3 b ce fp) ([] ++ pinsAt fp t7.heap) G c := fun hn c hc => ⟨hn c hc, (f10 c hc).2⟩
      have inner : codeAny (model X.prog X.w) X.A (.compLoop (SC e t0 i0 t1 i1 b pos) 1 (.ref it1) (.ref d) ce)
          (fun r t => match r with
            | .ok _ => ∃ m, m < n ∧ ∃ i G, Inv (X.blk s3 H3 b ce fp) [] (wipe σ (own.map (·.2))) G t ∧ tn i t.heap ∧ (∀ c ∈ fp, G c = none) ∧ W i m G
            | .error _ => False) t10 := by
        refine loop_i (fun k t => ∃ j G, Inv (X.blk s3 H3 b ce fp) ([] ++ pinsAt fp t7.heap) (wipe τ vs1) G t ∧ tn1 j t.heap ∧ (∀ c ∈ fp1, G c = none) ∧ U j k G) ?_ m1
          ⟨0, G10, I10.weak (wipe_length _ _) (fun j v z => (wipe_some z).1), st10, fun c hc => (f10 c hc).1, u1⟩
        rintro k t12 ⟨j, G12, I12, st12, n12, u12⟩
        rcases turn1 j k G12 u12 with ⟨stop1, nx⟩ | ⟨go1, Ny, less1, step1⟩
        · refine thnF (T1.done (X.blk s3 H3 b ce fp) rfl rfl rfl hc j _ t12 (wipe τ vs1) G12 (fun _ _ => False) I12 (own1 n12) st12 stop1) fun r t13 ⟨hr, I13⟩ => ?_
          subst hr
          obtain ⟨m, hm, w⟩ := less _ nx
          have pin : ∀ c ∈ fp, ∀ o, t7.heap.get? c = some o → t13.heap.get? c = some o ∧ G12 c = none := fun c hc o z =>
            let y := I13.pin (c, o) (List.mem_append_right _ (List.mem_append_right _ (mem_pinsAt hc z)))
            ⟨y.1, y.2.1⟩
          refine ⟨m, hm, i + 1, G12, (I13.unpinned (pins := [])).weak ?_ (fun a v z => ?_), T.keep _ _ _ st7 fun c hc o z => (pin c hc o z).1, fun c hc => ?_, w⟩
          · rw [← wp, wipe_length, wipe_length]
          · rw [← wp] at z
            obtain ⟨z1, z2⟩ := wipe_some z
            rw [wipe_out fun y => z2 (hv a y)]
            exact z1
          · obtain ⟨o, z, _⟩ := T.obj _ _ st7 c hc
            exact (pin c hc o z).2
        · refine thnF (T1.item (X.blk s3 H3 b ce fp) rfl rfl rfl hc j _ t12 (wipe τ vs1) G12 (fun _ _ => False) I12 (own1 n12) st12 go1) fun r t13 ⟨u1, hr, h13⟩ => ?_
          subst hr
          refine thnF h13 fun _ t14 ⟨x1, G14, I14, r14, y14, st14, n14⟩ => ?_
          refine thnF (G1.run _ t14 (wipe τ vs1) G14 x1 u1 _ (I14.pinned (own1 n14) (T1.obj _ _ st14)) r14 (step1 x1 G14 y14)) fun _ t15 ⟨υ, G15, I15, wp1, q15⟩ => ?_
          refine thnF (E1.run _ t15 υ G15 _ I15 q15) fun z t16 ⟨yv, G16, I16, r16, c, xs, hy, hd, room, nx⟩ => ?_
          subst hy
          refine addT_at (X := X.blk s3 H3 b ce fp) I16 hd room r16 fun t17 I17 => ?_
          obtain ⟨m, hm, w⟩ := less1 _ nx
          have pin : ∀ c ∈ fp1, ∀ o, t14.heap.get? c = some o → t17.heap.get? c = some o ∧ _ = none := fun c hc o z =>
            let y := I17.pin (c, o) (List.mem_append_right _ (List.mem_append_right _ (mem_pinsAt hc z)))
            ⟨y.1, y.2.1⟩
          refine ⟨m, hm, j + 1, _, I17.unpinned.weak (by rw [← wp1, wipe_length]) (fun a v z => by rw [← wp1] at z; exact (wipe_some z).1), T1.keep _ _ _ st14 fun c hc o z => (pin c hc o z).1, fun c hc => ?_, w⟩
          obtain ⟨o, z, _⟩ := T1.obj _ _ st14 c hc
          exact (pin c hc o z).2
      exact start_i inner (T1.self X.A 0 _ _ _ st10 inner)
  exact PpSet.codeAny_compStart_set main (T.self X.A 0 _ _ _ st4 main)
end
end My
/-! calls by keywords alone; rules with K a letter; order of texts -/
namespace My
open PySem PySem.Spec PyProof.Rows L2
section
variable {X : Cx} {K : PySem.W.Frag}
theorem sortedLK (e : X.K = K) : CallR X (.builtin "sorted") (rSortedL K) := e ▸ cr_sortedL
theorem setLK (e : X.K = K) (hc : X.calm = true) : CallR X (.type "set") (rSetL K X.w) := e ▸ cr_setL hc
theorem allBK (e : X.K = K) (hc : X.calm = true) : CallR X (.builtin "all") (rAll K) := e ▸ cr_all hc
end
section
variable {X : Cx}
/-- a if c else b, as a test -/
theorem pt_ifE {c a b : Expr} {pos : Pos} {tc ta tb : TT} (hc : PT X c tc) (ha : PT X a ta) (hb : PT X b tb) :
    PT X (.IfExp c a b pos) (fun σ H Q => tc σ H fun v H1 => if v = true then ta σ H1 Q else tb σ H1 Q) := by
  refine ⟨fun pins s σ H Q I h => isTrue_IfExp (thn (hc.run pins s σ H _ I h) fun v s1 z => ?_)⟩
  obtain ⟨H1, I1, q⟩ := z
  match v, q with
  | true, q => exact ha.run pins s1 σ H1 Q I1 q
  | false, q => exact hb.run pins s1 σ H1 Q I1 q
end
section
variable {X : Cx} {CX : CXT} {k : Nat} {f : Addr} {fd : FuncData} {ps ks : List Str} {sp : Sp} {E : XK} {x : Str} {p pos : Pos} {kws : List Keyword} {tk : TA}
  {g : List Value → List Value → List Value} {gV : List V → List V → List V}
/-- f(k = v, ..): no values by place -/
theorem pe_callKw (F : FnOk X.prog X.w X.K X.mg X.base CX k f fd ps sp) (hr : Room k X.A) (hg : Gl X x) (hm : X.mg x = some (.ref f)) (kp : PySem.W.keepIn X.K (.ref f) = true)
    (hb : KBinds X.K fd ps ks g gV) (hx : Passes CX X E) (hkw : PK X kws tk) (hall : (backToKw pos (keywordEach kws X.env)).all (·.1.isSome) = true := by rfl)
    (hks : (backToKw pos (keywordEach kws X.env)).filterMap (·.1) = ks := by rfl) (hdb : (x == ("__debug__" : Str)) = false := by decide)
    (hpl : ((backTo pos (starEach [] X.env)).any (·.1) || (backToKw pos (keywordEach kws X.env)).any (·.1.isNone)) = false := by rfl) :
    PE X (.Call (.Name x p) [] kws pos) (fun σ H Q => tk σ H fun zs H2 => sp (gV [] zs) H2 Q E) := by
  refine ⟨fun pins s σ H Q I h => wpAny_Call_Name_kw (ld_glob I hg hm ?_ hdb)⟩
  refine PySem.W.callWith_KW0 (h₀ := X.base) I.ok.mod.kin kp hall (thn (hkw.run pos pins s σ H _ I h) fun ws s2 ⟨zs, H2, I2, rz, q⟩ => ⟨I2.kIn, ?_⟩) hpl
  rw [hks]
  exact run_fnk (us := []) (vs := []) F hr hb hx I2 .nil rz q
end
/-- by one name; by two, the second parameter's first -/
def kw1 {α : Type} : List α → List α → List α
  | [], [a] => [a]
  | _, _ => []
def kw2 {α : Type} : List α → List α → List α
  | [], [a, b] => [b, a]
  | _, _ => []
theorem kw1_rel : ∀ {vs : List V} {us : List Value} {zs : List V} {ws : List Value}, Vals vs us → Vals zs ws → Vals (kw1 vs zs) (kw1 us ws)
  | _, _, _, _, .nil, .nil => .nil
  | _, _, _, _, .nil, .cons a .nil => .cons a .nil
  | _, _, _, _, .nil, .cons a (.cons b r) => .nil
  | _, _, _, _, .cons a r, .nil => .nil
  | _, _, _, _, .cons a r, .cons b .nil => .nil
  | _, _, _, _, .cons a r, .cons b (.cons c d) => .nil
theorem kw2_rel : ∀ {vs : List V} {us : List Value} {zs : List V} {ws : List Value}, Vals vs us → Vals zs ws → Vals (kw2 vs zs) (kw2 us ws)
  | _, _, _, _, .nil, .nil => .nil
  | _, _, _, _, .nil, .cons a .nil => .nil
  | _, _, _, _, .nil, .cons a (.cons b .nil) => .cons b (.cons a .nil)
  | _, _, _, _, .nil, .cons a (.cons b (.cons c d)) => .nil
  | _, _, _, _, .cons a r, .nil => .nil
  | _, _, _, _, .cons a r, .cons b .nil => .nil
  | _, _, _, _, .cons a r, .cons b (.cons c .nil) => .nil
  | _, _, _, _, .cons a r, .cons b (.cons c (.cons d e)) => .nil
theorem fun_kb {K : PySem.W.Frag} {x qual : Str} {st : Stmt} {f : Addr} {fd : FuncData} {ps ks : List Str} {g : List Value → List Value → List Value} {gV : List V → List V → List V} (F : Fun K x qual st f fd)
    (h : ∀ (kV doc pm : Value) (an : Option Addr) (cdv ct : Value) (us ws : List Value), (g us ws).length = ps.length →
      bindArgs (PySem.W.fnOf x qual (defArgs st) (defBody st) (defScope st) .none kV doc pm an cdv ct) ⟨us, ks.zip ws⟩ = pure (ps.zip (g us ws)))
    (rel : ∀ {vs : List V} {us : List Value} {zs : List V} {ws : List Value}, Vals vs us → Vals zs ws → Vals (gV vs zs) (g us ws)) : KBinds K fd ps ks g gV := by
  obtain ⟨oc, od, kV, doc, pm, an, cdv, ct, osl, rfl, lk, hcd⟩ := F.ex
  exact ⟨fun s us ws _ hl => .of_eq (h kV doc pm an cdv ct us ws hl), rel⟩
/-! ### one order alone -/
theorem str_anti {a b : Str} (h1 : ¬ a.cps.toList < b.cps.toList) (h2 : ¬ b.cps.toList < a.cps.toList) : a = b := by
  have e : a.cps.toList = b.cps.toList := List.le_antisymm (List.not_lt.mp h2) (List.not_lt.mp h1)
  obtain ⟨x⟩ := a
  obtain ⟨y⟩ := b
  exact congrArg Str.mk (Array.toList_inj.mp e)
theorem sorted_one {xs ys : List Str} (h : xs.Perm ys) (hx : Sorted xs) (hy : Sorted ys) : xs = ys :=
  h.eq_of_pairwise (fun a b _ _ p q => str_anti q p) hx hy
end My
/-! the bag of draws, apart from all else; boards as data -/
namespace My
open PySem PySem.Spec PyProof.Rows L2
/-! ### the heap without the two objects that draws change -/
def Off (b l : Addr) (H : Hp) : Hp := fun c => if c = b ∨ c = l then none else H c
theorem off_eq {b l c : Addr} {H : Hp} (h1 : c ≠ b) (h2 : c ≠ l) : Off b l H c = H c := if_neg fun z => z.elim h1 h2
theorem off_some {b l c : Addr} {H : Hp} {o : HO} (h : Off b l H c = some o) : c ≠ b ∧ c ≠ l ∧ H c = some o := by
  unfold Off at h
  split at h
  · cases h
  · rename_i z
    exact ⟨fun e => z (.inl e), fun e => z (.inr e), h⟩
abbrev Ext (b l : Addr) (H H' : Hp) : Prop := Same (Off b l H) (Off b l H')
theorem Ext.refl (b l : Addr) (H : Hp) : Ext b l H H := Same.refl _
theorem Ext.trans {b l : Addr} {H H1 H2 : Hp} (x : Ext b l H H1) (y : Ext b l H1 H2) : Ext b l H H2 := Same.trans x y
theorem Ext.of_same {b l : Addr} {H H' : Hp} (s : Same H H') : Ext b l H H' := fun c o h => by
  obtain ⟨h1, h2, h3⟩ := off_some h
  rw [off_eq h1 h2]
  exact s c o h3
theorem Ext.get {b l c : Addr} {H H' : Hp} {o : HO} (x : Ext b l H H') (h : H c = some o) (h1 : c ≠ b) (h2 : c ≠ l) : H' c = some o := by
  have z := x c o (by rw [off_eq h1 h2]; exact h)
  rw [off_eq h1 h2] at z
  exact z
theorem Ext.at_b {b l : Addr} {H : Hp} {o : HO} : Ext b l H (upd H b o) := fun c u h => by
  obtain ⟨h1, h2, h3⟩ := off_some h
  rw [off_eq h1 h2, upd_ne h1]
  exact h3
theorem Ext.at_l {b l : Addr} {H : Hp} {o : HO} : Ext b l H (upd H l o) := fun c u h => by
  obtain ⟨h1, h2, h3⟩ := off_some h
  rw [off_eq h1 h2, upd_ne h2]
  exact h3
theorem same_new {H : Hp} {p : Addr} {o : HO} (h : H p = none) : Same H (upd H p o) := fun c u e => by
  rw [upd_ne (ne_of_none e h)]
  exact e
/-- a new object that changes afterwards is none of the elder ones -/
theorem Ext.over {b l p : Addr} {H H' : Hp} {o : HO} (x : Ext b l H H') (h : H p = none) : Ext b l H (upd H' p o) := fun c u e => by
  obtain ⟨h1, h2, h3⟩ := off_some e
  rw [off_eq h1 h2, upd_ne (ne_of_none h3 h)]
  exact x.get h3 h1 h2
theorem same_over {p : Addr} {H H' : Hp} {o : HO} (x : Same H H') (h : H p = none) : Same H (upd H' p o) := fun c u e => by
  rw [upd_ne (ne_of_none e h)]
  exact x c u e
/-- the bag: its list at b, the digits at l -/
structure Bag (H : Hp) (b l : Addr) : Prop where
  ob : ∃ (i : Nat) (s n : Int), H b = some (.lst [.ref l, .int i, .int s, .int n]) ∧ 0 ≤ s ∧ s < 2305843009213693951
  ds : ∃ xs : List Int, H l = some (.lst (xs.map V.int)) ∧ ∀ x ∈ xs, 0 ≤ x
  ne : b ≠ l
theorem Bag.same {H H' : Hp} {b l : Addr} (B : Bag H b l) (s : Same H H') : Bag H' b l := by
  obtain ⟨⟨i, m, n, h1, r⟩, ⟨xs, h2, q⟩, ne⟩ := B
  exact ⟨⟨i, m, n, s _ _ h1, r⟩, ⟨xs, s _ _ h2, q⟩, ne⟩
theorem Bag.nb {H : Hp} {b l p : Addr} (B : Bag H b l) (h : H p = none) : p ≠ b := fun z => by
  obtain ⟨i, m, n, h1, _⟩ := B.ob
  rw [← z, h] at h1
  cases h1
theorem Bag.nl {H : Hp} {b l p : Addr} (B : Bag H b l) (h : H p = none) : p ≠ l := fun z => by
  obtain ⟨xs, h1, _⟩ := B.ds
  rw [← z, h] at h1
  cases h1
/-- an object that is neither of the two changes -/
theorem Bag.put {H : Hp} {b l p : Addr} {o : HO} (B : Bag H b l) (h1 : p ≠ b) (h2 : p ≠ l) : Bag (upd H p o) b l := by
  obtain ⟨⟨i, m, n, e1, r⟩, ⟨xs, e2, q⟩, ne⟩ := B
  exact ⟨⟨i, m, n, by rw [upd_ne h1.symm]; exact e1, r⟩, ⟨xs, by rw [upd_ne h2.symm]; exact e2, q⟩, ne⟩
/-- a number below count -/
def spDraw : Sp := fun vs H Q _ => ∃ (b l : Addr) (c : Int), vs = [.ref b, .int c] ∧ Bag H b l ∧ 0 < c ∧ c < 1073741824 ∧
  ∀ (r : Int) (H' : Hp), 0 ≤ r → r < c → Bag H' b l → Ext b l H H' → Q (.int r) H'
/-- a new bag -/
def spBag (K : PySem.W.Frag) : Sp := fun vs H Q _ => ∃ (a : Addr) (ns : List Int), vs = [.ref a] ∧ SqL K H a (ns.map V.int) ∧ ns.length ≤ 63 ∧
  ∀ (b l : Addr) (H' : Hp), H b = none → H l = none → Bag H' b l → Same H H' → Q (.ref b) H'
theorem item_int {ns : List Int} {i : Nat} {y : V} (h : (ns.map V.int)[i]? = some y) : ∃ z, ns[i]? = some z ∧ y = V.int z := by
  rw [List.getElem?_map] at h
  cases e : ns[i]? with
  | none =>
    rw [e] at h
    cases h
  | some z =>
    rw [e] at h
    exact ⟨z, rfl, (Option.some.inj h).symm⟩
theorem item_str {ns : List Str} {i : Nat} {y : V} (h : (ns.map V.str)[i]? = some y) : ∃ z, ns[i]? = some z ∧ y = V.str z := by
  rw [List.getElem?_map] at h
  cases e : ns[i]? with
  | none =>
    rw [e] at h
    cases h
  | some z =>
    rw [e] at h
    exact ⟨z, rfl, (Option.some.inj h).symm⟩
theorem map_at {α : Type} {f : α → V} {xs : List α} {i : Nat} {x : α} (h : xs[i]? = some x) : (xs.map f)[i]? = some (f x) := by
  rw [List.getElem?_map, h]
  rfl
theorem cut_map {α : Type} {f : α → V} {xs : List α} {lo hi : Option Int} : ∃ ys : List α, cutV (xs.map f) lo hi = ys.map f ∧ ys.length ≤ xs.length ∧ ∀ y ∈ ys, y ∈ xs := by
  have e : cutV (xs.map f) lo hi = ((xs.drop (HT.sIx (xs.map f).length 0 lo)).take
      (HT.sIx (xs.map f).length (xs.map f).length hi - HT.sIx (xs.map f).length 0 lo)).map f := by
    rw [List.map_take, List.map_drop]
    rfl
  refine ⟨_, e, ?_, fun y hy => List.mem_of_mem_drop (List.mem_of_mem_take hy)⟩
  rw [List.length_take, List.length_drop]
  omega
/-- plain signs alone -/
def Lo (z : Str) : Prop := ∀ c ∈ z.cps.toList, c < 128
theorem Lo.app {a b : Str} (ha : Lo a) (hb : Lo b) : Lo (a ++ b) := fun c h => by
  have e : (a ++ b).cps.toList = a.cps.toList ++ b.cps.toList := by
    show (a.cps ++ b.cps).toList = _
    rw [Array.toList_append]
  rw [e] at h
  rcases List.mem_append.mp h with h | h
  · exact ha c h
  · exact hb c h
theorem lo_one {c : Nat} (h : c < 128) : Lo ⟨#[c]⟩ := fun d hd => by
  have e : d = c := by simpa using hd
  rw [e]
  exact h
/-- a name of at most eight signs -/
structure Ok8 (z : Str) : Prop where
  n8 : z.length ≤ 8
  lo : Lo z
/-- names of at most eight signs -/
def W8 (ws : List Str) : Prop := ∀ z ∈ ws, Ok8 z
theorem w8_nil : W8 [] := fun z h => by cases h
theorem W8.snoc {ws : List Str} {z : Str} (h : W8 ws) (hz : Ok8 z) : W8 (ws ++ [z]) := fun y hy => by
  rcases List.mem_append.mp hy with q | q
  · exact h y q
  · cases List.mem_singleton.mp q
    exact hz
theorem str_add (a b : Str) : (a ++ b).length = a.length + b.length := by first | exact strLen_append a b | exact PySem.Str.length_append a b
theorem join0 : ∀ ws : List Str, (∀ z ∈ ws, z.length = 1) → (Str.join "" ws).length = ws.length
  | [], _ => rfl
  | [x], h => h x List.mem_cons_self
  | x :: y :: r, h => by
    have ih := join0 (y :: r) fun z hz => h z (List.mem_cons_of_mem _ hz)
    show (x ++ "" ++ Str.join "" (y :: r)).length = _
    rw [str_add, str_add, h x List.mem_cons_self, ih]
    have e : (("" : String) : Str).length = 0 := rfl
    rw [e, List.length_cons, List.length_cons, List.length_cons]
    omega
theorem lo_join : ∀ ws : List Str, (∀ z ∈ ws, Lo z) → Lo (Str.join "" ws)
  | [], _ => fun c h => by
    have e : (Str.join "" []).cps.toList = [] := rfl
    rw [e] at h
    cases h
  | [x], h => h x List.mem_cons_self
  | x :: y :: r, h => by
    have ih := lo_join (y :: r) fun z hz => h z (List.mem_cons_of_mem _ hz)
    show Lo (x ++ "" ++ Str.join "" (y :: r))
    refine Lo.app (Lo.app (h x List.mem_cons_self) fun c hc => ?_) ih
    have e : (("" : String) : Str).cps.toList = [] := rfl
    rw [e] at hc
    cases hc
theorem sum_ones : ∀ ws : List Str, (∀ z ∈ ws, z.length = 1) → (ws.map (·.length)).sum = ws.length
  | [], _ => rfl
  | x :: r, h => by
    have ih := sum_ones r fun z hz => h z (List.mem_cons_of_mem _ hz)
    rw [List.map_cons, List.sum_cons, ih, h x List.mem_cons_self, List.length_cons]
    omega
/-- so many names, a new list -/
def spPool : Sp := fun vs H Q _ => ∃ (b l : Addr) (c : Int), vs = [.ref b, .int c] ∧ Bag H b l ∧ 0 ≤ c ∧ c ≤ 96 ∧
  ∀ (p : Addr) (ws : List Str) (H' : Hp), H p = none → p ≠ b → p ≠ l → (ws.length : Int) = c → W8 ws →
    H' p = some (.lst (ws.map V.str)) → Bag H' b l → Ext b l H H' → Q (.ref p) H'
theorem lt_size {n m : Nat} (h : n < m) (h2 : m ≤ 1000) : n < sizeLine := small1000 (by omega)
/-! ### boards as data -/
structure Kp where
  name : Str
  room : Int
  whole : Bool
  row : List Str
structure Tm where
  least : Int
  ks : List Kp
def KpAt (H : Hp) (a : Addr) (k : Kp) : Prop := ∃ r, H a = some (.tup [.str k.name, .int k.room, .bl k.whole, .ref r]) ∧ H r = some (.lst (k.row.map V.str))
def TmAt (H : Hp) (a : Addr) (t : Tm) : Prop := ∃ (c : Addr) (as : List Addr), H a = some (.tup [.int t.least, .ref c]) ∧ H c = some (.lst (as.map V.ref)) ∧ Paired (KpAt H) as t.ks
def BdAt (H : Hp) (a : Addr) (bd : List Tm) : Prop := ∃ as : List Addr, H a = some (.lst (as.map V.ref)) ∧ Paired (TmAt H) as bd
theorem KpAt.same {H H' : Hp} (s : Same H H') {a : Addr} {k : Kp} (h : KpAt H a k) : KpAt H' a k := by
  obtain ⟨r, h1, h2⟩ := h
  exact ⟨r, s _ _ h1, s _ _ h2⟩
theorem TmAt.same {H H' : Hp} (s : Same H H') {a : Addr} {t : Tm} (h : TmAt H a t) : TmAt H' a t := by
  obtain ⟨c, as, h1, h2, h3⟩ := h
  exact ⟨c, as, s _ _ h1, s _ _ h2, L2.Paired.mapP h3 fun _ _ q => q.same s⟩
theorem BdAt.same {H H' : Hp} (s : Same H H') {a : Addr} {bd : List Tm} (h : BdAt H a bd) : BdAt H' a bd := by
  obtain ⟨as, h1, h2⟩ := h
  exact ⟨as, s _ _ h1, L2.Paired.mapP h2 fun _ _ q => q.same s⟩
theorem off_same (b l : Addr) (H : Hp) : Same (Off b l H) H := fun c o h => (off_some h).2.2
/-- what is new in H', seen from H -/
def Nw (H H' : Hp) : Hp := fun c => match H c with
  | none => H' c
  | some _ => none
theorem nw_eq {H H' : Hp} {c : Addr} (h : H c = none) : Nw H H' c = H' c := by
  unfold Nw
  rw [h]
theorem nw_some {H H' : Hp} {c : Addr} {o : HO} (h : Nw H H' c = some o) : H c = none ∧ H' c = some o := by
  unfold Nw at h
  split at h
  · rename_i e
    exact ⟨e, h⟩
  · cases h
def Of1 (d : Addr) (H : Hp) : Hp := fun c => if c = d then none else H c
theorem of1_eq {d c : Addr} {H : Hp} (h : c ≠ d) : Of1 d H c = H c := if_neg h
theorem of1_some {d c : Addr} {H : Hp} {o : HO} (h : Of1 d H c = some o) : c ≠ d ∧ H c = some o := by
  unfold Of1 at h
  split at h
  · cases h
  · rename_i z
    exact ⟨z, h⟩
theorem of1_same {d : Addr} {H H' : Hp} (s : Same H H') : Same (Of1 d H) (Of1 d H') := fun c o h => by
  obtain ⟨h1, h2⟩ := of1_some h
  rw [of1_eq h1]
  exact s c o h2
theorem of1_less (d : Addr) (H : Hp) : Same (Of1 d H) H := fun c o h => (of1_some h).2
structure KpOk (k : Kp) : Prop where
  n8 : Ok8 k.name
  r1 : 1 ≤ k.room
  r12 : k.room ≤ 12
  l12 : k.row.length ≤ 12
  w8 : W8 k.row
structure TmOk (t : Tm) : Prop where
  l0 : 0 ≤ t.least
  l9 : t.least ≤ 9
  k8 : t.ks.length ≤ 8
  ok : ∀ k ∈ t.ks, KpOk k
structure BdOk (bd : List Tm) : Prop where
  t3 : bd.length ≤ 3
  ok : ∀ t ∈ bd, TmOk t
theorem paired_snoc {α β : Type} {F : α → β → Prop} {x : α} {y : β} : ∀ {xs : List α} {ys : List β}, Paired F xs ys → F x y → Paired F (xs ++ [x]) (ys ++ [y])
  | _, _, .nil, h => .cons h .nil
  | _, _, .cons h r, q => .cons h (paired_snoc r q)
theorem paired_app {α β : Type} {F : α → β → Prop} : ∀ {xs zs : List α} {ys ws : List β}, Paired F xs ys → Paired F zs ws → Paired F (xs ++ zs) (ys ++ ws)
  | _, _, _, _, .nil, h => h
  | _, _, _, _, .cons h r, q => .cons h (paired_app r q)
theorem paired_at {α β : Type} {F : α → β → Prop} : ∀ {xs : List α} {ys : List β} {i : Nat} {x : α}, Paired F xs ys → xs[i]? = some x → ∃ y, ys[i]? = some y ∧ F x y
  | _, _, _, _, .nil, e => by simp at e
  | _, _, 0, _, .cons h r, e => ⟨_, rfl, by cases e; exact h⟩
  | _, _, i + 1, _, .cons h r, e => paired_at (i := i) r e
/-- two ways that meet -/
theorem join2 {c : Bool} {ta tb : TE} {σ : L2.St} {H : Hp} {Q : VK} (φ : V → Hp → Prop) (hq : ∀ v H', φ v H' → Q v H')
    (h : (∀ v H', φ v H' → Q v H') → if c = true then ta σ H Q else tb σ H Q) : if c = true then ta σ H Q else tb σ H Q := h hq
/-- a keeper of some names -/
def spKeeper : Sp := fun vs H Q _ => ∃ (b l so : Addr) (n : Str) (ws : List Str), vs = [.ref b, .str n, .ref so] ∧ Bag H b l ∧
  H so = some (.lst (ws.map V.str)) ∧ so ≠ b ∧ so ≠ l ∧ W8 ws ∧ 12 ≤ ws.length ∧ ws.length ≤ 96 ∧ Ok8 n ∧
  ∀ (a : Addr) (k : Kp) (H' : Hp), k.name = n → KpOk k → KpAt (Nw H H') a k → Bag H' b l → Ext b l H H' → Q (.ref a) H'
/-- a board -/
def spBoard : Sp := fun vs H Q _ => ∃ (b l : Addr), vs = [.ref b] ∧ Bag H b l ∧
  ∀ (a : Addr) (bd : List Tm) (H' : Hp), BdOk bd → BdAt (Nw H H') a bd → Bag H' b l → Ext b l H H' → Q (.ref a) H'
theorem Ext.free {b l p : Addr} {H H' : Hp} (x : Ext b l H H') (h : H' p = none) (h1 : p ≠ b) (h2 : p ≠ l) : H p = none := by
  cases q : H p with
  | none => rfl
  | some o =>
    have z := x.get q h1 h2
    rw [h] at z
    cases z
theorem w8_erase {ws : List Str} {j : Nat} (h : W8 ws) : W8 (ws.eraseIdx j) := fun z hz => h z (List.mem_of_mem_eraseIdx hz)
theorem erase_map {α : Type} {f : α → V} : ∀ (l : List α) (j : Nat), (l.map f).eraseIdx j = (l.eraseIdx j).map f
  | [], _ => rfl
  | _ :: _, 0 => rfl
  | a :: r, j + 1 => congrArg (f a :: ·) (erase_map r j)
theorem Bag.tb {H : Hp} {b l : Addr} (B : Bag H b l) : H b ≠ none ∧ H l ≠ none := by
  obtain ⟨i, m, n, h1, _⟩ := B.ob
  obtain ⟨xs, h2, _⟩ := B.ds
  exact ⟨by rw [h1]; simp, by rw [h2]; simp⟩
/-- what was new stays, where draws alone changed -/
theorem nw_ext {b l : Addr} {H H' H'' : Hp} (B : Bag H b l) (x : Ext b l H' H'') : Same (Nw H H') (Nw H H'') := fun c o h => by
  obtain ⟨h1, h2⟩ := nw_some h
  rw [nw_eq h1]
  exact x.get h2 (fun z => B.tb.1 (by rw [← z]; exact h1)) (fun z => B.tb.2 (by rw [← z]; exact h1))
/-- what is new behind a later state is new -/
theorem nw_later {b l : Addr} {H H' H'' : Hp} (B : Bag H b l) (x : Ext b l H H') (B' : Bag H' b l) : Same (Nw H' H'') (Nw H H'') := fun c o h => by
  obtain ⟨h1, h2⟩ := nw_some h
  rw [nw_eq (x.free h1 (B'.nb h1) (B'.nl h1))]
  exact h2
theorem nw_upd {H H' : Hp} {d : Addr} {o : HO} : Same (Of1 d (Nw H H')) (Of1 d (Nw H (upd H' d o))) := fun c u h => by
  obtain ⟨h1, h2⟩ := of1_some h
  obtain ⟨h3, h4⟩ := nw_some h2
  rw [of1_eq h1, nw_eq h3, upd_ne h1]
  exact h4
theorem cut_pre {α : Type} {f : α → V} {xs : List α} {k : Nat} : ∃ ys : List α, cutV (xs.map f) none (some (k : Int)) = ys.map f ∧ ys.length = min k xs.length ∧ ∀ y ∈ ys, y ∈ xs := by
  refine ⟨xs.take k, ?_, List.length_take, fun y hy => List.mem_of_mem_take hy⟩
  unfold cutV
  rw [HT.sIx_none, HT.sIx_nat, List.drop_zero, List.map_take, List.length_map]
  show (xs.map f).take (min k xs.length - 0) = _
  rw [Nat.sub_zero]
  have e : xs.length = (xs.map f).length := (List.length_map _).symm
  rw [e, List.take_eq_take_iff]
  omega
theorem of2_get {f d c : Addr} {H H' : Hp} {u : HO} (h : Of1 f (Of1 d (Nw H H')) c = some u) : c ≠ f ∧ c ≠ d ∧ H c = none ∧ H' c = some u := by
  obtain ⟨h1, h2⟩ := of1_some h
  obtain ⟨h3, h4⟩ := of1_some h2
  obtain ⟨h5, h6⟩ := nw_some h4
  exact ⟨h1, h3, h5, h6⟩
theorem of2_put {f d c : Addr} {H H' : Hp} {u : HO} (h1 : c ≠ f) (h2 : c ≠ d) (h3 : H c = none) (h4 : H' c = some u) : Of1 f (Of1 d (Nw H H')) c = some u := by
  rw [of1_eq h1, of1_eq h2, nw_eq h3]
  exact h4
theorem of3_get {e f d c : Addr} {H H' : Hp} {u : HO} (h : Of1 e (Of1 f (Of1 d (Nw H H'))) c = some u) : c ≠ e ∧ c ≠ f ∧ c ≠ d ∧ H c = none ∧ H' c = some u := by
  obtain ⟨h1, h2⟩ := of1_some h
  exact ⟨h1, of2_get h2⟩
theorem of3_put {e f d c : Addr} {H H' : Hp} {u : HO} (h0 : c ≠ e) (h1 : c ≠ f) (h2 : c ≠ d) (h3 : H c = none) (h4 : H' c = some u) : Of1 e (Of1 f (Of1 d (Nw H H'))) c = some u := by
  rw [of1_eq h0]
  exact of2_put h1 h2 h3 h4
theorem seq_at {n j : Nat} (h : j < n) : seqIndex? (j : Int) n = some j := (ixN_seq (by unfold ixN; simp; omega)).1
end My
/-! boards as Python data, and how long their repr is -/
namespace My
open PySem PySem.Spec PyProof.Rows L2
def dStrs (ws : List Str) : PyData := .list (ws.map PyData.str)
def dKp (k : Kp) : PyData := .tuple [.str k.name, .int k.room, .bool k.whole, dStrs k.row]
def dTm (t : Tm) : PyData := .tuple [.int t.least, .list (t.ks.map dKp)]
def dBd (bd : List Tm) : PyData := .list (bd.map dTm)
section
variable {K : PySem.W.Frag} {H : Hp}
theorem dp_strs : ∀ ws : List Str, DpAll K H (ws.map V.str) (ws.map PyData.str)
  | [] => .nil
  | x :: r => .cons (.str x) (dp_strs r)
theorem dp_pair {α : Type} {F : Addr → α → Prop} {d : α → PyData} (h : ∀ a x, F a x → Dp K H (.ref a) (d x)) : ∀ {as : List Addr} {xs : List α}, Paired F as xs → DpAll K H (as.map V.ref) (xs.map d)
  | _, _, .nil => .nil
  | _, _, .cons q r => .cons (h _ _ q) (dp_pair h r)
theorem dp_kp {a : Addr} {k : Kp} (h : KpAt H a k) : Dp K H (.ref a) (dKp k) := by
  obtain ⟨r, h1, h2⟩ := h
  exact .tup (SqT.of h1) (.cons (.str _) (.cons (.int _) (.cons (.bl _) (.cons (.lst (SqL.of h2) (dp_strs _)) .nil))))
theorem dp_tm {a : Addr} {t : Tm} (h : TmAt H a t) : Dp K H (.ref a) (dTm t) := by
  obtain ⟨c, as, h1, h2, h3⟩ := h
  exact .tup (SqT.of h1) (.cons (.int _) (.cons (.lst (SqL.of h2) (dp_pair (fun _ _ q => dp_kp q) h3)) .nil))
theorem dp_bd {a : Addr} {bd : List Tm} (h : BdAt H a bd) : Dp K H (.ref a) (dBd bd) := by
  obtain ⟨as, h1, h2⟩ := h
  exact .lst (SqL.of h1) (dp_pair (fun _ _ q => dp_tm q) h2)
end
/-! ### sizes -/
theorem from_le : ∀ (ts : List Str) (k : Nat) (acc : Str), (textFrom k acc ts).length ≤ acc.length + piled ts
  | [], _, acc => Nat.le_refl _
  | t :: r, k, acc => by
    have ih := from_le r (k + 1) (acc ++ (if k > 0 then ", " else "" : String) ++ t)
    show (textFrom (k + 1) _ r).length ≤ _
    rw [str_add, str_add] at ih
    rw [piled_cons]
    have e : (((if k > 0 then ", " else "" : String) : Str)).length ≤ 2 := by split <;> decide
    omega
theorem list_le (ts : List Str) : (listText ts).length ≤ piled ts + 2 := by
  unfold listText
  rw [str_add]
  have h := from_le ts 0 "["
  have e1 : ((("[" : String) : Str)).length = 1 := rfl
  have e2 : ((("]" : String) : Str)).length = 1 := rfl
  omega
theorem join_le : ∀ ts : List Str, (Str.join ", " ts).length ≤ piled ts
  | [] => Nat.zero_le _
  | [x] => by
    rw [piled_cons]
    show x.length ≤ _
    omega
  | x :: y :: r => by
    have ih := join_le (y :: r)
    show (x ++ ", " ++ Str.join ", " (y :: r)).length ≤ _
    have e2 : (((", " : String) : Str)).length = 2 := rfl
    rw [str_add, str_add, e2, piled_cons]
    omega
theorem tuple_le (ts : List Str) : (tupleText ts).length ≤ piled ts + 3 := by
  unfold tupleText
  rw [str_add, str_add]
  have h := join_le ts
  have e1 : ((("(" : String) : Str)).length = 1 := rfl
  have e3 : (((if ts.length == 1 then ",)" else ")" : String) : Str)).length ≤ 2 := by split <;> decide
  omega
theorem piled_le {m : Nat} : ∀ {ts : List Str}, (∀ t ∈ ts, t.length ≤ m) → piled ts ≤ (m + 2) * ts.length
  | [], _ => Nat.zero_le _
  | t :: r, h => by
    have ih := piled_le (ts := r) fun x hx => h x (List.mem_cons_of_mem _ hx)
    have h1 := h t List.mem_cons_self
    rw [piled_cons, List.length_cons, Nat.mul_add]
    omega
theorem shownAll_len : ∀ ds : List PyData, (PyData.shownAll ds).length = ds.length
  | [] => by rw [PyData.shownAll]; rfl
  | d :: r => by rw [PyData.shownAll, List.length_cons, List.length_cons, shownAll_len r]
theorem shownAll_le {m : Nat} : ∀ {ds : List PyData}, (∀ d ∈ ds, d.shown.length ≤ m) → ∀ t ∈ PyData.shownAll ds, t.length ≤ m
  | [], _, t, ht => by rw [PyData.shownAll] at ht; cases ht
  | d :: r, h, t, ht => by
    rw [PyData.shownAll] at ht
    rcases List.mem_cons.mp ht with e | e
    · rw [e]
      exact h d List.mem_cons_self
    · exact shownAll_le (fun x hx => h x (List.mem_cons_of_mem _ hx)) t e
theorem list_shown {m n : Nat} {ds : List PyData} (h : ∀ d ∈ ds, d.shown.length ≤ m) (hn : ds.length ≤ n) : (PyData.list ds).shown.length ≤ (m + 2) * n + 2 := by
  rw [PyData.shown]
  have h1 := list_le (PyData.shownAll ds)
  have h2 := piled_le (shownAll_le h)
  rw [shownAll_len] at h2
  have h3 : (m + 2) * ds.length ≤ (m + 2) * n := Nat.mul_le_mul_left _ hn
  omega
theorem int_shown {i : Int} (h0 : 0 ≤ i) (h1 : i ≤ 12) : (PyData.int i).shown.length ≤ 2 := by
  rw [PyData.shown]
  have e : i = 0 ∨ i = 1 ∨ i = 2 ∨ i = 3 ∨ i = 4 ∨ i = 5 ∨ i = 6 ∨ i = 7 ∨ i = 8 ∨ i = 9 ∨ i = 10 ∨ i = 11 ∨ i = 12 := by omega
  rcases e with e | e | e | e | e | e | e | e | e | e | e | e | e <;> (subst e; decide +kernel)
theorem str_shown {z : Str} (h : Ok8 z) : (PyData.str z).shown.length ≤ 82 := by
  rw [PyData.shown]
  have := StrLaws.reprText_len z fun c hc => Nat.lt_trans (h.lo c hc) (by decide)
  have := h.n8
  omega
theorem strs_shown {ws : List Str} (h : W8 ws) (hl : ws.length ≤ 12) : (dStrs ws).shown.length ≤ 1010 := by
  have q := list_shown (m := 82) (n := 12) (ds := ws.map PyData.str) (fun d hd => by
    obtain ⟨z, hz, rfl⟩ := List.mem_map.mp hd
    exact str_shown (h z hz)) (by rw [List.length_map]; exact hl)
  exact q
theorem kp_shown {k : Kp} (h : KpOk k) : (dKp k).shown.length ≤ 1200 := by
  unfold dKp
  rw [PyData.shown]
  have h1 := tuple_le (PyData.shownAll [.str k.name, .int k.room, .bool k.whole, dStrs k.row])
  rw [PyData.shownAll, PyData.shownAll, PyData.shownAll, PyData.shownAll, PyData.shownAll, piled_cons, piled_cons, piled_cons, piled_cons, piled_nil] at h1
  have a := str_shown h.n8
  have b := int_shown (i := k.room) (by have := h.r1; omega) h.r12
  have c := strs_shown h.w8 h.l12
  have d : (PyData.bool k.whole).shown.length ≤ 5 := by
    rw [PyData.shown]
    cases k.whole <;> decide
  rw [PyData.shownAll, PyData.shownAll, PyData.shownAll, PyData.shownAll, PyData.shownAll]
  omega
theorem tm_shown {t : Tm} (h : TmOk t) : (dTm t).shown.length ≤ 9700 := by
  unfold dTm
  rw [PyData.shown]
  have h1 := tuple_le (PyData.shownAll [.int t.least, .list (t.ks.map dKp)])
  rw [PyData.shownAll, PyData.shownAll, PyData.shownAll, piled_cons, piled_cons, piled_nil] at h1
  have b := int_shown (i := t.least) h.l0 (by have := h.l9; omega)
  have c := list_shown (m := 1200) (n := 8) (ds := t.ks.map dKp) (fun d hd => by
    obtain ⟨z, hz, rfl⟩ := List.mem_map.mp hd
    exact kp_shown (h.ok z hz)) (by rw [List.length_map]; exact h.k8)
  rw [PyData.shownAll, PyData.shownAll, PyData.shownAll]
  omega
theorem bd_shown {bd : List Tm} (h : BdOk bd) : (dBd bd).shown.length ≤ sizeLine := by
  have c := list_shown (m := 9700) (n := 3) (ds := bd.map dTm) (fun d hd => by
    obtain ⟨z, hz, rfl⟩ := List.mem_map.mp hd
    exact tm_shown (h.ok z hz)) (by rw [List.length_map]; exact h.t3)
  rw [sizeLine_eq]
  unfold dBd
  omega
/-! ### they can be shown -/
theorem all_showable : ∀ {ds : List PyData}, (∀ d ∈ ds, d.showable = true) → PyData.showableAll ds = true
  | [], _ => by rw [PyData.showableAll]
  | d :: r, h => by
    rw [PyData.showableAll, h d List.mem_cons_self, all_showable fun x hx => h x (List.mem_cons_of_mem _ hx)]
    rfl
theorem all_noDict : ∀ {ds : List PyData}, (∀ d ∈ ds, d.hasDict = false) → PyData.hasDictAll ds = false
  | [], _ => by rw [PyData.hasDictAll]
  | d :: r, h => by
    rw [PyData.hasDictAll, h d List.mem_cons_self, all_noDict fun x hx => h x (List.mem_cons_of_mem _ hx)]
    rfl
theorem all_depth {m : Nat} : ∀ {ds : List PyData}, (∀ d ∈ ds, d.depth ≤ m) → PyData.depthAll ds ≤ m
  | [], _ => by rw [PyData.depthAll]; exact Nat.zero_le _
  | d :: r, h => by
    rw [PyData.depthAll]
    exact Nat.max_le.mpr ⟨h d List.mem_cons_self, all_depth fun x hx => h x (List.mem_cons_of_mem _ hx)⟩
/-- it can be shown, is no dict and at most m deep -/
structure Shw (m : Nat) (d : PyData) : Prop where
  s : d.showable = true
  n : d.hasDict = false
  p : d.depth ≤ m
theorem shw_list {m : Nat} {ds : List PyData} (h : ∀ d ∈ ds, Shw m d) : Shw (m + 1) (.list ds) :=
  ⟨by rw [PyData.showable]; exact all_showable fun d hd => (h d hd).s, by rw [PyData.hasDict]; exact all_noDict fun d hd => (h d hd).n,
    by rw [PyData.depth]; exact Nat.succ_le_succ (all_depth fun d hd => (h d hd).p)⟩
theorem shw_tup {m : Nat} {ds : List PyData} (h : ∀ d ∈ ds, Shw m d) : Shw (m + 1) (.tuple ds) :=
  ⟨by rw [PyData.showable]; exact all_showable fun d hd => (h d hd).s, by rw [PyData.hasDict]; exact all_noDict fun d hd => (h d hd).n,
    by rw [PyData.depth]; exact Nat.succ_le_succ (all_depth fun d hd => (h d hd).p)⟩
theorem Shw.more {m n : Nat} {d : PyData} (h : Shw m d) (l : m ≤ n) : Shw n d := ⟨h.s, h.n, Nat.le_trans h.p l⟩
theorem shw_str (z : Str) : Shw 0 (.str z) := ⟨by rw [PyData.showable], by rw [PyData.hasDict], by rw [PyData.depth]; exact Nat.le_refl _⟩
theorem shw_bool (z : Bool) : Shw 0 (.bool z) := ⟨by rw [PyData.showable], by rw [PyData.hasDict], by rw [PyData.depth]; exact Nat.le_refl _⟩
theorem shw_int {i : Int} (h0 : 0 ≤ i) (h1 : i ≤ 1000) : Shw 0 (.int i) := ⟨by
    rw [PyData.showable]
    have q : i.natAbs.log2 < 10 := PySem.Flt.log2_lt_of (by decide) (by omega)
    exact decide_eq_true (by omega), by rw [PyData.hasDict], by rw [PyData.depth]; exact Nat.le_refl _⟩
theorem shw_strs (ws : List Str) : Shw 1 (dStrs ws) := shw_list fun d hd => by
  obtain ⟨z, _, rfl⟩ := List.mem_map.mp hd
  exact shw_str z
theorem shw_kp {k : Kp} (h : KpOk k) : Shw 2 (dKp k) := shw_tup fun d hd => by
  simp only [List.mem_cons, List.not_mem_nil, or_false] at hd
  rcases hd with e | e | e | e <;> rw [e]
  · exact (shw_str _).more (by decide)
  · exact (shw_int (by have := h.r1; omega) (by have := h.r12; omega)).more (by decide)
  · exact (shw_bool _).more (by decide)
  · exact shw_strs _
theorem shw_tm {t : Tm} (h : TmOk t) : Shw 4 (dTm t) := shw_tup fun d hd => by
  simp only [List.mem_cons, List.not_mem_nil, or_false] at hd
  rcases hd with e | e <;> rw [e]
  · exact (shw_int h.l0 (by have := h.l9; omega)).more (by decide)
  · refine shw_list fun d hd => ?_
    obtain ⟨z, hz, rfl⟩ := List.mem_map.mp hd
    exact shw_kp (h.ok z hz)
theorem shw_bd {bd : List Tm} (h : BdOk bd) : Shw 5 (dBd bd) := shw_list fun d hd => by
  obtain ⟨z, hz, rfl⟩ := List.mem_map.mp hd
  exact shw_tm (h.ok z hz)
end My
/-! all(..), any(..) of a generator expression whose element may do anything: a walk by states of one's own -/
namespace My
open PySem PySem.Spec PyProof.Rows L2
abbrev GX (e tg : Expr) (it : Expr) (sc : Scope) (pos : Pos) : Expr := .GeneratorExp e [⟨tg, it, [], 0⟩] sc pos
/-- the around of the generator's own loop -/
abbrev ga (A : Around) (e tg : Expr) (it : Expr) (sc : Scope) (pos : Pos) (I : Addr) (cv : Env) : Around := A.over (.compLoop (GX e tg it sc pos) 0 (.ref I) .none cv) []
structure GenW (P : Program) (w : World) (A : Around) (a : Addr) (g : Nat) (cv : Env) (e tg : Expr) (it : Expr) (sc : Scope) (pos : Pos) (I : Addr) (n : Nat) (b : Nat → Bool)
    (J : Nat → Shared → Prop) : Prop where
  co : cv.scope.isCoroutine = false
  hd : A.handled = none
  gen : ∀ i s, J i s → s.heap.IsGen a g ∧ s.heap.NoLimit
  set : ∀ i s y, y.bare = true → J i s → J i (s.setGen g y)
  grow : ∀ i s h', J i s → (∀ c o, s.heap.get? c = some o → h'.get? c = some o) → J i { s with heap := h' }
  self : ∀ s A' Q E, J 0 s → Q (.ref I) s → wpAny (model P w) A' (pyIter (.ref I)) Q E s
  item : ∀ i s, i < n → J i s → wpAny (model P w) (ga A e tg it sc pos I cv) (pyNext (.ref I)) (fun r s1 => ∃ v, r = some v ∧
    wpAny (model P w) (ga A e tg it sc pos I cv) (letOwnedTupleGo tg (.ref I) v) (fun _ s1 => wpAny (model P w) (ga A e tg it sc pos I cv) (assign tg cv v) (fun _ s2 =>
      wpAny (model P w) (ga A e tg it sc pos I cv) (eval e cv) (fun y s3 => y = .bool (b i) ∧ J (i + 1) s3)
      (fun _ _ => False) s2) (fun _ _ => False) s1) (fun _ _ => False) s1) (fun _ _ => False) s
  done : ∀ s, J n s → wpAny (model P w) (ga A e tg it sc pos I cv) (pyNext (.ref I)) (fun r s1 => r = none ∧ J (n + 1) s1) (fun _ _ => False) s
/-- what is handed out, and what waking wants -/
def gY (g n : Nat) (b : Nat → Bool) (J : Nat → Shared → Prop) : Protocol := fun m _ v s kap =>
  ∃ i, i + m + 1 = n ∧ v = .bool (b i) ∧ J (i + 1) s ∧ g < s.gens.size ∧ ∀ s', J (i + 1) s' → g < s'.gens.size → kap (.send .none) s'
def gR (n : Nat) (J : Nat → Shared → Prop) : GenEnd := fun k _ r s => r = .ok .next ∧ k = 0 ∧ J (n + 1) s
section
variable {P : Program} {w : World} {A : Around} {a : Addr} {g : Nat} {cv : Env} {e tg : Expr} {it : Expr} {sc : Scope} {pos : Pos} {I : Addr} {n : Nat} {b : Nat → Bool} {J : Nat → Shared → Prop}
theorem no_err {α : Type} {M : Model} {A : Around} {t : Sem α} {Q : α → Shared → Prop} {E : Value → Shared → Prop} {s : Shared} (h : wpAny M A t Q (fun _ _ => False) s) : wpAny M A t Q E s :=
  wpAny_mono h (fun _ _ z => z) fun _ _ z => z.elim
theorem g_loop (G : GenW P w A a g cv e tg it sc pos I n b J) : ∀ (k i : Nat) (s0 s : Shared), n - i = k → i ≤ n → J i s → g < s.gens.size →
    Seg (model P w) A (gR n J) (gY g n b J) k s0 (.compLoop (GX e tg it sc pos) 0 (.ref I) .none cv) ((model P w).den (.compLoop (GX e tg it sc pos) 0 (.ref I) .none cv)) [] s := by
  intro k
  induction k with
  | zero =>
    intro i s0 s hk hi hJ hg
    have e0 : i = n := by omega
    subst e0
    show Seg _ A _ _ _ s0 _ ((compTurn (GX e tg it sc pos) 0 (.ref I) .none cv).onRaise (leaving cv)) [] s
    rw [compTurn_gen, Sem.onRaise_eq_wrap]
    refine seg_bind_wrap (wpAny_standAt (seg_bind_wrap (wpAny_mono (G.done s hJ) (fun r s1 q => ?_) fun _ _ z => z.elim)))
    obtain ⟨rfl, q⟩ := q
    exact seg_end (.ok .next) ⟨rfl, rfl, q⟩
  | succ k ih =>
    intro i s0 s hk hi hJ hg
    have lt : i < n := by omega
    show Seg _ A _ _ _ s0 _ ((compTurn (GX e tg it sc pos) 0 (.ref I) .none cv).onRaise (leaving cv)) [] s
    rw [compTurn_gen, Sem.onRaise_eq_wrap]
    refine seg_bind_wrap (wpAny_standAt (seg_bind_wrap (GenW.wpAny_gsz (n := g + 1) hg (wpAny_mono (G.item i s lt hJ) (fun r s1 q g1 => ?_) fun _ _ z => z.elim))))
    obtain ⟨v, rfl, q⟩ := q
    refine seg_bind_wrap (GenW.wpAny_gsz (n := g + 1) g1 (wpAny_mono q (fun _ s1 q g1 => ?_) fun _ _ z => z.elim))
    refine seg_bind_wrap (GenW.wpAny_gsz (n := g + 1) g1 (wpAny_mono q (fun _ s2 q g2 => ?_) fun _ _ z => z.elim))
    refine seg_bind_wrap (wpAny_pure ?_)
    have hy : ∀ v, yieldOut cv v = yieldValue v := fun v => by simp only [yieldOut, G.co, Bool.false_eq_true, if_false]
    simp only [if_true, hy]
    rw [Sem.bind_eq_wrap', Sem.bind_eq_wrap', Sem.wrap_wrap, Sem.wrap_wrap]
    refine seg_wrap (GenW.wpAny_gsz (n := g + 1) g2 (wpAny_mono q (fun y s3 q g3 => ?_) fun _ _ z => z.elim))
    obtain ⟨rfl, q⟩ := q
    refine seg_at (seg_yield rfl rfl rfl ⟨i, by omega, rfl, q, g3, fun s' hJ' hg' => ?_⟩)
    exact seg_again rfl (ih (i + 1) s' s' (by omega) lt hJ' hg')
theorem g_start (G : GenW P w A a g cv e tg it sc pos I n b J) {s0 s : Shared} (hJ : J 0 s) (hg : g < s.gens.size) :
    Seg (model P w) A (gR n J) (gY g n b J) n s0 (.compStart (GX e tg it sc pos) 0 (.ref I) .none cv) ((model P w).den (.compStart (GX e tg it sc pos) 0 (.ref I) .none cv)) [] s := by
  have loop := g_loop G n 0 s0 s (Nat.sub_zero _) (Nat.zero_le _) hJ hg
  show Seg _ A _ _ _ s0 _ ((compStart (GX e tg it sc pos) 0 (.ref I) .none cv).onRaise (leaving cv)) [] s
  unfold compStart
  rw [Sem.onRaise_eq_wrap]
  refine seg_bind_wrap (m := ask) (wpAny_askSetting ?_)
  split
  · exact seg_again rfl loop
  · refine seg_bind_wrap (wpAny_rule ?_)
    exact seg_bind_wrap (m := standAt it.pos) (wpAny_standAt (seg_bind_wrap (G.self s _ _ _ hJ (seg_again rfl loop))))
/-- between two turns: i are out -/
structure GS (P : Program) (w : World) (A : Around) (a : Addr) (g n : Nat) (b : Nat → Bool) (J : Nat → Shared → Prop) (i : Nat) (s : Shared) : Prop where
  j : J i s
  lt : g < s.gens.size
  go : ∃ gs, s.gens[g]? = some gs ∧ ∀ s', J i s' → g < s'.gens.size → gs.Goes (model P w) A (gR n J) (gY g n b J) (n - i) (.send .none) s'
theorem set_at {s : Shared} {g : Nat} {y : GenState} (h : g < s.gens.size) : (s.setGen g y).gens[g]? = some y := by
  simp [Shared.setGen, h]
theorem g_fresh (G : GenW P w A a g cv e tg it sc pos I n b J) {s : Shared} (hJ : J 0 s) (hg : s.gens[g]? = some (.fresh (.compStart (GX e tg it sc pos) 0 (.ref I) .none cv))) : GS P w A a g n b J 0 s := by
  refine ⟨hJ, (Array.getElem?_eq_some_iff.mp hg).1, _, hg, fun s' hJ' hg' => ⟨rfl, ?_⟩⟩
  exact g_start G hJ' hg'
end
section
variable {P : Program} {w : World} {A : Around} {a : Addr} {g : Nat} {cv : Env} {e tg : Expr} {it : Expr} {sc : Scope} {pos : Pos} {I : Addr} {n : Nat} {b : Nat → Bool} {J : Nat → Shared → Prop}
theorem g_next (G : GenW P w A.in1 a g cv e tg it sc pos I n b J) (room : A.depth < recursionLimit) {i : Nat} {s : Shared} (lt : i < n) (S : GS P w A.in1 a g n b J i s) :
    wpAny (model P w) A (pyNext (.ref a)) (fun r s1 => r = some (.bool (b i)) ∧ GS P w A.in1 a g n b J (i + 1) s1) (fun _ _ => False) s := by
  obtain ⟨hJ, hlt, gs, hgs, go⟩ := S
  obtain ⟨hg, hl⟩ := G.gen i s hJ
  obtain ⟨m, hm⟩ : ∃ m, n - i = m + 1 := ⟨n - i - 1, by omega⟩
  rw [hm] at go
  refine wpAny_pyNext_genexpQ (n := m + 1) (P := fun k _ s1 => k = 0 ∧ J (n + 1) s1) (Y := gY g n b J) G.hd hl room hg hgs (go _ (G.set i s _ rfl hJ) (by rw [GenW.setGen_size]; exact hlt)) (fun v s1 gs' bare h => ?_) (fun s1 h => nomatch h.1)
  obtain ⟨i', hi', rfl, hJ1, hg1, kap⟩ := h
  have ei : i' = i := by omega
  subst ei
  refine ⟨rfl, G.set _ _ _ bare hJ1, by rw [GenW.setGen_size]; exact hg1, gs', set_at hg1, fun s2 h2 g2 => ?_⟩
  have em : n - (i' + 1) = m := by omega
  rw [em]
  exact kap s2 h2 g2
theorem g_stop (G : GenW P w A.in1 a g cv e tg it sc pos I n b J) (room : A.depth < recursionLimit) {s : Shared} (S : GS P w A.in1 a g n b J n s) :
    wpAny (model P w) A (pyNext (.ref a)) (fun r s1 => r = none ∧ J (n + 1) s1) (fun _ _ => False) s := by
  obtain ⟨hJ, hlt, gs, hgs, go⟩ := S
  obtain ⟨hg, hl⟩ := G.gen n s hJ
  rw [Nat.sub_self] at go
  refine wpAny_pyNext_genexpQ (n := 0) (P := fun k _ s1 => k = 0 ∧ J (n + 1) s1) (Y := gY g n b J) G.hd hl room hg hgs (go _ (G.set n s _ rfl hJ) (by rw [GenW.setGen_size]; exact hlt)) (fun v s1 gs' bare h => ?_) (fun s1 h h' k => ?_)
  · obtain ⟨_, _, _, hJ1, hg1, kap⟩ := h
    exact (kap s1 hJ1 hg1).elim
  · exact ⟨rfl, G.grow (n + 1) _ h' (G.set (n + 1) s1 _ rfl h.2) k⟩
theorem all_loop (G : GenW P w A.in1.in1 a g cv e tg it sc pos I n b J) (room : A.in1.depth < recursionLimit) {R : Result → Shared → Prop} : ∀ (k i : Nat) (s : Shared), n - i = k → i ≤ n → GS P w A.in1.in1 a g n b J i s →
    (∀ j s', j ≤ n + 1 → J j s' → R (.ok (.ret (.bool (((List.range n).drop i).all b)))) s') → codeAny (model P w) A (.builtin "all.loop" ⟨[.ref a], []⟩) R s := by
  intro k
  induction k with
  | zero =>
    intro i s hk hi S hR
    have e0 : i = n := by omega
    subst e0
    refine codeAny_builtin F.entry_all_loop ?_
    rw [Around.under_plainId F.plain_all_loop _]
    refine wpAny_bind (m := pyNext (.ref a)) (no_err (wpAny_mono (g_stop G room S) (fun r s1 q => ?_) fun _ _ z => z))
    obtain ⟨rfl, q⟩ := q
    have z := hR (i + 1) s1 (Nat.le_refl _) q
    rw [List.drop_of_length_le (by simp)] at z
    exact wpAny_bind (wpAny_rule (wpAny_pure z))
  | succ k ih =>
    intro i s hk hi S hR
    have lt : i < n := by omega
    refine codeAny_builtin F.entry_all_loop ?_
    rw [Around.under_plainId F.plain_all_loop _]
    refine wpAny_bind (m := pyNext (.ref a)) (no_err (wpAny_mono (g_next G room lt S) (fun r s1 q => ?_) fun _ _ z => z))
    obtain ⟨rfl, q⟩ := q
    have dr : (List.range n).drop i = i :: (List.range n).drop (i + 1) := range_drop lt
    rw [dr, List.all_cons] at hR
    refine wpAny_bind (wpAny_holding (wpAny_truthy_bool (wpAny_bind (wpAny_letGo ?_))))
    cases hb : b i with
    | true =>
      rw [hb, Bool.true_and] at hR
      exact wpAny_pure ⟨plainId_quiet F.plain_all_loop _, ih (i + 1) s1 (by omega) lt q hR⟩
    | false =>
      rw [hb, Bool.false_and] at hR
      exact wpAny_bind (wpAny_rule (wpAny_pure (hR (i + 1) s1 (by omega) q.j)))
theorem any_loop (G : GenW P w A.in1.in1 a g cv e tg it sc pos I n b J) (room : A.in1.depth < recursionLimit) {R : Result → Shared → Prop} : ∀ (k i : Nat) (s : Shared), n - i = k → i ≤ n → GS P w A.in1.in1 a g n b J i s →
    (∀ j s', j ≤ n + 1 → J j s' → R (.ok (.ret (.bool (((List.range n).drop i).any b)))) s') → codeAny (model P w) A (.builtin "any.loop" ⟨[.ref a], []⟩) R s := by
  intro k
  induction k with
  | zero =>
    intro i s hk hi S hR
    have e0 : i = n := by omega
    subst e0
    refine codeAny_builtin F.entry_any_loop ?_
    rw [Around.under_plainId F.plain_any_loop _]
    refine wpAny_bind (m := pyNext (.ref a)) (no_err (wpAny_mono (g_stop G room S) (fun r s1 q => ?_) fun _ _ z => z))
    obtain ⟨rfl, q⟩ := q
    have z := hR (i + 1) s1 (Nat.le_refl _) q
    rw [List.drop_of_length_le (by simp)] at z
    exact wpAny_bind (wpAny_rule (wpAny_pure z))
  | succ k ih =>
    intro i s hk hi S hR
    have lt : i < n := by omega
    refine codeAny_builtin F.entry_any_loop ?_
    rw [Around.under_plainId F.plain_any_loop _]
    refine wpAny_bind (m := pyNext (.ref a)) (no_err (wpAny_mono (g_next G room lt S) (fun r s1 q => ?_) fun _ _ z => z))
    obtain ⟨rfl, q⟩ := q
    have dr : (List.range n).drop i = i :: (List.range n).drop (i + 1) := range_drop lt
    rw [dr, List.any_cons] at hR
    refine wpAny_bind (wpAny_holding (wpAny_truthy_bool (wpAny_bind (wpAny_letGo ?_))))
    cases hb : b i with
    | true =>
      rw [hb, Bool.true_or] at hR
      exact wpAny_bind (wpAny_rule (wpAny_pure (hR (i + 1) s1 (by omega) q.j)))
    | false =>
      rw [hb, Bool.false_or] at hR
      exact wpAny_pure ⟨plainId_quiet F.plain_any_loop _, ih (i + 1) s1 (by omega) lt q hR⟩
theorem call_allG {E : Value → Shared → Prop} {s : Shared} {Q : Value → Shared → Prop} (G : GenW P w A.in1.in1 a g cv e tg it sc pos I n b J) (room : A.in1.depth < recursionLimit) (S : GS P w A.in1.in1 a g n b J 0 s)
    (hQ : ∀ j s', j ≤ n + 1 → J j s' → Q (.bool ((List.range n).all b)) s') : wpAny (model P w) A (call (.builtin "all") [.ref a]) Q E s := by
  refine call_function_tree F.kind_all F.plain_all F.entry_all (F.args_all1 _) ?_
  unfold Builtin.«all»
  refine wpAny_bind (m := oneArg "all" _) (wpAny_pure (wpAny_bind (wpAny_pyIter_gen (G.gen 0 s S.j).1 ?_)))
  exact wpAny_pure ⟨plainId_quiet F.plain_all_loop _, all_loop G room n 0 s rfl (Nat.zero_le _) S fun j s' hj q => by simpa using hQ j s' hj q⟩
theorem call_anyG {E : Value → Shared → Prop} {s : Shared} {Q : Value → Shared → Prop} (G : GenW P w A.in1.in1 a g cv e tg it sc pos I n b J) (room : A.in1.depth < recursionLimit) (S : GS P w A.in1.in1 a g n b J 0 s)
    (hQ : ∀ j s', j ≤ n + 1 → J j s' → Q (.bool ((List.range n).any b)) s') : wpAny (model P w) A (call (.builtin "any") [.ref a]) Q E s := by
  refine call_function_tree F.kind_any F.plain_any F.entry_any (F.args_any1 _) ?_
  unfold Builtin.«any»
  refine wpAny_bind (m := oneArg "any" _) (wpAny_pure (wpAny_bind (wpAny_pyIter_gen (G.gen 0 s S.j).1 ?_)))
  exact wpAny_pure ⟨plainId_quiet F.plain_any_loop _, any_loop G room n 0 s rfl (Nat.zero_le _) S fun j s' hj q => by simpa using hQ j s' hj q⟩
end
end My
/-! the context of a generator expression's element -/
namespace My
open PySem PySem.Spec PyProof.Rows L2
theorem ga_eq {A : Around} {e tg : Expr} {it : Expr} {sc : Scope} {pos : Pos} {I : Addr} {cv : Env} : ga A e tg it sc pos I cv = A.deeper cv := by
  first
    | rfl
    | (obtain ⟨hd, d, fr, gs, u⟩ := A; simp [ga, GX, Around.over, Around.deeper, marksOver, frameCount, unitsOf, envsOf, guardsOf, pushEnvs, pushGuards, Code.envs, Code.env?, Code.isFrame, Code.guards, Code.isGuard, Code.weight, Code.frames, Code.isCreation, Code.isCaller, Code.cUnits])
/-- the element's context -/
abbrev gcx (X : Cx) (s : Shared) (H : Hp) (cv : Env) (fp : List Addr) : Cx :=
  { X with A := X.A.in1.in1.deeper cv, s_0 := s, H_0 := H, env := cv, outer := X.stack, stack := cv :: X.stack, ex := fp, fn := fun _ => false, pn := [], xe := fun _ _ => False }
theorem set_inv {X : Cx} {pins : List (Addr × Obj)} {σ : L2.St} {H : Hp} {s : Shared} {g : Nat} {y : GenState} (hy : y.bare = true) (I : Inv X pins σ H s) : Inv X pins σ H (s.setGen g y) := by
  have key : ∀ z ∈ s.gens.setIfInBounds g y, z.bare = true := fun z hz => by
    obtain ⟨i, hi, rfl⟩ := Array.mem_iff_getElem.mp hz
    rw [Array.getElem_setIfInBounds]
    split
    · exact hy
    · exact I.bare _ (Array.getElem_mem _)
    · simpa using hi
  exact ⟨I.ok, I.os, key, I.base, I.loc, I.cell, I.free, I.freeC, I.pin, I.hok, I.len⟩
section
variable {X : Cx} {pins : List (Addr × Obj)} {σ : L2.St} {H : Hp} {s : Shared}
theorem gen_start {scope : Scope} {own : List (Str × Nat)} {fp : List Addr} {code : Value} {h' : Heap} {gs : GenState} {ob : Obj} {tk : Nat} (I : Inv X pins σ H s) (ok : BlkOk X.N X.env.scope scope own) (hN : X.N.Nodup)
    (nc : ∀ y ∈ scope.names, y.2 ≠ .cell) (hfp : ∀ b ∈ fp, FpOk X pins H b ∧ b < s.heap.objs.size) (hgs : gs.bare = true) (hob : ∀ v, ob.data ≠ .cell v) (hof : ob.isFreed = false) {m : Str → Option Value}
    (hn : h'.Ns s.heap.objs.size m) (hs : Heap.SameBut s.heap.objs.size (s.heap.push { cls := .type "frame", data := .dict #[] }) h') :
    Inv (gcx X s H (genEnv scope (cloFrom X.env.cells scope.names []) s.heap.objs.size code builtinsNs X.env) fp) [(h'.objs.size, ob)] (wipe σ (own.map (·.2))) H
      { s with gens := s.gens.push gs, toks := tk, heap := h'.push ob } := by
  have fr : ∀ y ∈ scope.names, y.2 = .free → ∃ c, X.env.cells.lookup y.1 = some c := fun y hy z => I.ok.has _ ((ok.free y hy z).elim .inl .inr)
  generalize hcv : genEnv scope (cloFrom X.env.cells scope.names []) s.heap.objs.size code builtinsNs X.env = cv
  have hL : cv.locals = s.heap.objs.size := by rw [← hcv]; rfl
  have hcl : cv.cells = cloFrom X.env.cells scope.names [] := by rw [← hcv]; rfl
  have hsc : cv.scope = scope := by rw [← hcv]; rfl
  have sz : h'.objs.size = s.heap.objs.size + 1 := by rw [hs.1, Heap.size_push]
  have kp' : ∀ b o, s.heap.get? b = some o → h'.get? b = some o := fun b o e => (hs.2 b (Nat.ne_of_lt (Heap.lt_size e))).trans (Heap.get?_push_of_some _ e)
  have kp : ∀ b o, s.heap.get? b = some o → (h'.push ob).get? b = some o := fun b o e => Heap.get?_push_of_some _ (kp' b o e)
  have cm : ∀ {y c}, cv.cells.lookup y = some c → X.env.cells.lookup y = some c ∧ c < s.heap.objs.size := fun {y c} e => by
    rw [hcl] at e
    rcases cloFrom_mem (PySem.mem_of_lookup e) with hm | ⟨h1, rfl⟩
    · cases hm
    · obtain ⟨c, hc⟩ := fr _ h1 rfl
      rw [hc]
      obtain ⟨w, z⟩ := I.cell _ _ hc
      exact ⟨rfl, z.lt⟩
  have look : ∀ {y}, scope.names.lookup y = some .free → ∃ c, cv.cells.lookup y = some c ∧ X.env.cells.lookup y = some c := fun {y} hl => by
    obtain ⟨c, e⟩ := mem_lookup (cloFrom_has (cells := X.env.cells) (acc := []) (PySem.mem_of_lookup hl))
    rw [← hcl] at e
    exact ⟨c, e, (cm e).1⟩
  have kd : ∀ {y k}, scope.names.lookup y = some k → k ≠ .cell := fun {y k} e => nc (y, k) (PySem.mem_of_lookup e)
  have okB : (gcx X s H cv fp).Ok := by
    refine ⟨I.ok.mod, by show cv.scope.kind = _; rw [hsc]; exact ok.kind, by show cv.globals = _; rw [← hcv]; exact I.ok.glob, by show cv.builtins = _; rw [← hcv]; rfl, by show s.heap.objs.size ≤ cv.locals; rw [hL]; exact Nat.le_refl _,
      fun y z c e1 e2 => I.ok.inj y z c (cm e1).1 (cm e2).1, fun y hy => ?_, fun y c z => ?_, fun z => I.ok.hd z, ?_, .inr ⟨rfl, by show cv.frame = some cv.locals; rw [← hcv]; rfl⟩, fun b hb => ⟨?_, fun y c e z => ?_⟩,
      I.bs, Nat.le_trans I.ok.bsz I.sz, fun b o e hb => ?_, fun b hb z => ?_, I.stack, I.stkFree⟩
    · have hy : cv.scope.names.lookup y = some .cell ∨ cv.scope.names.lookup y = some .free := hy
      rw [hsc] at hy
      rcases hy with z | z
      · exact absurd rfl (kd z)
      · obtain ⟨c, e, _⟩ := look z
        exact ⟨c, e⟩
    · exact Bool.noConfusion (z : false = true)
    · show (X.A.in1.in1.deeper cv).frames = some (cv :: X.stack)
      have z := I.ok.frames
      show pushEnvs [cv] X.A.frames = _
      rw [z]
      rfl
    · show b ≠ cv.locals
      rw [hL]
      exact Nat.ne_of_lt (hfp b hb).2
    · exact (hfp b hb).1.2.2.2.2.1 y c (cm e).1 z
    · rcases (hfp b hb).1.2.2.2.1 with z | z
      · exact I.ok.noex b o e z
      · exact absurd (Nat.lt_of_lt_of_le (Heap.lt_size e) (Nat.le_trans I.ok.bsz z)) (Nat.lt_irrefl _)
    · rcases List.mem_cons.mp (I.stkSub b z) with z | z
      · exact (hfp b hb).1.2.1 z
      · exact (hfp b hb).1.2.2.1 z
  have sz2 : (h'.push ob).objs.size = s.heap.objs.size + 2 := by rw [Heap.size_push, sz]
  refine ⟨okB, rfl, I.bare.push hgs, Un.kept kp, ⟨m, ?_, fun i y av e1 e2 e3 => ?_⟩, fun y c e => ?_, ?_, fun y c e => I.freeC y c (cm e).1, fun p hp => ?_, I.hok.kept kp, by rw [wipe_length]; exact I.len⟩
  · show Heap.Ns _ cv.locals _
    rw [hL]
    exact hn.push _
  · obtain ⟨e2, hne⟩ := wipe_some e2
    have e3 : Vis cv.scope y := e3
    have no : ¬ (scope.names.lookup y = some .local) := fun hh => by
      rcases ok.own _ (PySem.mem_of_lookup hh) (.inl rfl) with z | z
      · obtain ⟨p, hp, hpy⟩ := List.mem_map.mp z
        have e4 := ok.ix p hp
        rw [show p.1 = y from hpy] at e4
        exact hne (List.mem_map.mpr ⟨p, hp, nodup_ix hN e4 e1⟩)
      · exact z (List.mem_of_getElem? e1)
    rw [hsc] at e3
    have free : scope.names.lookup y = some .free := by
      rcases e3 with z | z | z
      · exact absurd z no
      · exact absurd rfl (kd z)
      · exact z
    obtain ⟨m', hn', hl⟩ := I.loc
    have fk := ok.free _ (PySem.mem_of_lookup free) rfl
    obtain ⟨w, r, q⟩ := hl i y av e1 e2 (fk.elim (fun k => .inr (.inl k)) (fun k => .inr (.inr k)))
    obtain ⟨c, h1, h2⟩ := look free
    refine ⟨w, r, .inr ⟨.inr (by show cv.scope.names.lookup y = _; rw [hsc]; exact free), ?_⟩⟩
    rcases q with ⟨k, _⟩ | ⟨_, c', e', z⟩
    · have k : X.env.scope.names.lookup y = some .local := k
      rcases fk with k' | k' <;> rw [show X.env.scope.names.lookup y = _ from k'] at k <;> cases k
    · rw [h2] at e'
      cases e'
      exact ⟨c, h1, z.keeps kp⟩
  · obtain ⟨w, z⟩ := I.cell y c (cm e).1
    exact ⟨w, z.keeps kp⟩
  · show H cv.locals = none
    rw [hL]
    exact I.hok.fresh (Nat.le_refl _)
  · have hp : p ∈ ([] : List (Addr × Obj)) ++ [(h'.objs.size, ob)] := hp
    obtain rfl : p = (h'.objs.size, ob) := by simpa using hp
    refine ⟨Heap.get?_push_size _ hof, I.hok.fresh (by rw [sz]; exact Nat.le_succ _), ?_, fun z => ?_, hob⟩
    · show h'.objs.size ≠ cv.locals
      rw [hL, sz]
      exact Nat.succ_ne_self _
    · have z : h'.objs.size ∈ frs X.stack := z
      rcases List.mem_cons.mp (I.stkSub _ z) with y | y
      · have q := I.lt
        rw [← y, sz] at q
        exact absurd (Nat.lt_of_succ_lt q) (Nat.lt_irrefl _)
      · exact I.nofs (a := h'.objs.size) (by rw [sz]; exact Nat.le_succ _) y
end
end My
/-! all(..), any(..) of a generator expression over the layer; its element may call -/
namespace My
open PySem PySem.Spec PyProof.Rows L2
open GxR (TabB TabG Tabbed)
/-- the generator's own scope -/
structure GenC (sc : Scope) : Prop where
  kind : sc.kind = .function
  co : sc.isCoroutine = false
  cell : ∀ y ∈ sc.names, y.2 ≠ .cell
  dot : sc.names.lookup (".0" : Str) = some NameKind.local
abbrev gob (g tk : Nat) (q : Str) : Obj := { cls := .type "generator", data := .fields #[.int g 0, .str "<genexpr>" (tk + 1), .str (q ++ "<genexpr>") (tk + 1 + 1)] }
section
variable {X : Cx}
/-- the code object: the table has grown, or not -/
theorem code_G {c P : Addr} {pos : Pos} {qn : Str} {sc : Scope} {pins : List (Addr × Obj)} {σ : L2.St} {H : Hp} {s : Shared} {Q : Value → Shared → Prop} {E : Value → Shared → Prop}
    (TB : TabB X.base X.mg c P) (hcode : X.env.code = .ref c) (I : Inv X pins σ H s) (hT : TabG H P)
    (hQ : ∀ code h' tk H', Tabbed P H H' → Inv X pins σ H' { s with heap := h', toks := tk } → s.heap.objs.size ≤ h'.objs.size → (∀ b o, b ≠ P → s.heap.get? b = some o → h'.get? b = some o) → Q code { s with heap := h', toks := tk }) :
    wpAny (model X.prog X.w) X.A (genexprCode X.env pos qn sc) Q E s := by
  obtain ⟨ps, hP, ht⟩ := hT
  have hPs : s.heap.get? P = some { cls := .none, data := .fields ps } := I.hok P _ hP
  have cd : PySem.W.CodeHd s.heap c P := TB.code.keeps fun b u z => I.bk b u z
  cases hf : codeAmong pos ps.toList with
  | none =>
    refine wpAny_genexprCodeX hcode (cd.code hPs ht) (cd.tab hPs) hf fun c' h' tk hx hge hlt hco _ htab _ => ?_
    obtain ⟨o1, vs, f1, tf, fl, tg, inF, tx, tt, op, _, _, _, _, _, _, _, _, _, htr, _⟩ := hco
    have kp : ∀ b o, b ≠ P → s.heap.get? b = some o → h'.get? b = some o := fun b o nb z => hx b o nb z
    refine hQ _ h' tk _ ⟨⟨_, upd_same, htr⟩, fun b nb => upd_ne nb⟩ ?_ (Nat.le_trans hge (Nat.le_of_lt hlt)) kp
    exact GxR.inv_tab (g' := s.gens) (d' := s.drawn) I hP kp htab.2 I.bare
  | some cv =>
    refine wpAny_genexprCode_hit hcode (cd.code hPs ht) hf ?_
    exact hQ cv s.heap s.toks H ⟨⟨ps, hP, ht⟩, fun _ _ => rfl⟩ I (Nat.le_refl _) fun b o _ z => z
/-- what an all(..) wants: n items, the tests b -/
def tG (f : Nat → (Nat → Bool) → Bool) (P : Addr) (wi : TI) (g : TG) (te : TE) (vs : List Nat) : TE := fun σ H Q => wi σ H fun J H1 => TabG H1 P ∧ ∀ H2, Tabbed P H1 H2 →
  ∃ (n : Nat) (b : Nat → Bool) (W : Nat → Hp → Prop), W 0 H2 ∧
    (∀ i G, i < n → W i G → J.go i G ∧ ∀ y G', J.yld i G y G' → g y (wipe σ vs) G' fun τ G2 => wipe τ vs = wipe σ vs ∧ te τ G2 fun z G3 => z = .bl (b i) ∧ W (i + 1) G3) ∧
    (∀ G, W n G → J.stop n G) ∧ ∀ j G, j ≤ n → W j G → Q (.bl (f n b)) G
theorem gen_run {c P : Addr} {e tg it : Expr} {gpos : Pos} {sc : Scope} {own : List (Str × Nat)} {wi : TI} {g : TG} {te : TE} {f : Nat → (Nat → Bool) → Bool}
    {pins : List (Addr × Obj)} {σ : L2.St} {H : Hp} {s : Shared} {Q : VK} {Q' : Value → Shared → Prop}
    (hc : X.calm = true) (hr : X.A.depth + 5 < recursionLimit) (hN : X.N.Nodup) (TB : TabB X.base X.mg c P) (hcode : X.env.code = .ref c) (ok : BlkOk X.N X.env.scope sc own) (S : GenC sc)
    (hi : PI X tg it wi) (hs : ∀ v, genFold it X.env v = pure v)
    (hg : ∀ (s : Shared) (H : Hp) (cl : List (Str × Addr)) (C : Addr) (code : Value) (fp : List Addr), PG (gcx X s H (genEnv sc cl C code builtinsNs X.env) fp) tg g)
    (he : ∀ (s : Shared) (H : Hp) (cl : List (Str × Addr)) (C : Addr) (code : Value) (fp : List Addr), PE (gcx X s H (genEnv sc cl C code builtinsNs X.env) fp) e te)
    (I : Inv X pins σ H s) (h : tG f P wi g te (own.map (·.2)) σ H Q)
    (hQ : ∀ (a gn : Nat) (cv : Env) (itr : Addr) (n : Nat) (b : Nat → Bool) (J : Nat → Shared → Prop) (s5 : Shared), GenW X.prog X.w X.A.in1.in1 a gn cv e tg it sc gpos itr n b J →
      GS X.prog X.w X.A.in1.in1 a gn n b J 0 s5 → (∀ j s', j ≤ n + 1 → J j s' → EP X pins σ Q (.bool (f n b)) s') → Q' (.ref a) s5) :
    wpAny (model X.prog X.w) X.A (eval (GX e tg it sc gpos) X.env) Q' X.xe s := by
  have fr : ∀ y ∈ sc.names, y.2 = .free → ∃ c, X.env.cells.lookup y.1 = some c := fun y hy z => I.ok.has _ ((ok.free y hy z).elim .inl .inr)
  refine wpAny_GeneratorExp_make S.co (closure_ok fr) S.cell S.dot S.kind (by omega) (thn (hi.run pins s σ H _ I h) fun xv s1 hx => thn hx fun itv s2 h2 => ?_) hs
  obtain ⟨itr, fp, tn, J, H2, rfl, I2, T, st2, f2, hT, q⟩ := h2
  refine ⟨I2.nolimit, code_G TB hcode I2 hT fun code h3 tk3 H3 tb I3 ge kp => ?_⟩
  obtain ⟨bm, ob, e1, e2, e3, e4, e5, e6, e7, e8⟩ := TB.bm
  generalize hs3 : ({ s2 with heap := h3, toks := tk3 } : Shared) = s3 at I3 ⊢
  have eh : s3.heap = h3 := by rw [← hs3]
  refine wpAny_builtinsFor (m := X.mg) (by rw [I3.ok.glob]; exact I3.mod.glob.keeps I3.bk) e1 e2 (I3.bk _ _ e5) e6 e7 e8 fun h' hn sb => ?_
  obtain ⟨n, b, W, w0, item, stop, fin⟩ := q H3 tb
  have nP : ∀ c ∈ fp, c ≠ P := fun c hc z => by
    obtain ⟨ps, hp, _⟩ := hT
    have y := (f2 c hc).1
    rw [z, hp] at y
    cases y
  have f3 : ∀ c ∈ fp, FpOk X pins H3 c ∧ c < s3.heap.objs.size := fun c hc => by
    refine ⟨⟨(tb.2 c (nP c hc)).trans (f2 c hc).1, (f2 c hc).2⟩, ?_⟩
    rw [eh]
    exact Nat.lt_of_lt_of_le ((T.obj _ _ st2 c hc).elim fun o z => Heap.lt_size z.1) ge
  have st3 : tn 0 s3.heap := T.keep _ _ _ st2 fun c hc o z => by rw [eh]; exact kp c o (nP c hc) z
  have I5 := gen_start (gs := .fresh (.compStart (GX e tg it sc gpos) 0 (.ref itr) .none (genEnv sc (cloFrom X.env.cells sc.names []) s3.heap.objs.size code builtinsNs X.env))) (ob := gob s3.gens.size s3.toks X.env.qual)
    (tk := s3.toks + 1 + 1 + 1) (code := code) I3 ok hN S.cell f3 rfl (fun v z => by cases z) rfl hn sb
  have sz : h'.objs.size = s3.heap.objs.size + 1 := by rw [sb.1, Heap.size_push]
  have kp5 : ∀ c o, s3.heap.get? c = some o → (h'.push (gob s3.gens.size s3.toks X.env.qual)).get? c = some o := fun c o z =>
    Heap.get?_push_of_some _ ((sb.2 c (Nat.ne_of_lt (Heap.lt_size z))).trans (Heap.get?_push_of_some _ z))
  generalize hs5 : ({ s3 with gens := s3.gens.push (.fresh (.compStart (GX e tg it sc gpos) 0 (.ref itr) .none (genEnv sc (cloFrom X.env.cells sc.names []) s3.heap.objs.size code builtinsNs X.env))), toks := s3.toks + 1 + 1 + 1, heap := h'.push (gob s3.gens.size s3.toks X.env.qual) } : Shared) = s5 at I5 ⊢
  have st5 : tn 0 s5.heap := T.keep _ _ _ st3 fun c _ o z => by rw [← hs5]; exact kp5 c o z
  have n3 : ∀ c ∈ fp, H3 c = none := fun c hc => (f3 c hc).1.1
  have g5 : s5.gens[s3.gens.size]? = some (.fresh (.compStart (GX e tg it sc gpos) 0 (.ref itr) .none (genEnv sc (cloFrom X.env.cells sc.names []) s3.heap.objs.size code builtinsNs X.env))) := by
    rw [← hs5]
    exact Array.getElem?_push_size ..
  have G0 := hg s3 H3 (cloFrom X.env.cells sc.names []) s3.heap.objs.size code fp
  have E0' := he s3 H3 (cloFrom X.env.cells sc.names []) s3.heap.objs.size code fp
  have hco : (genEnv sc (cloFrom X.env.cells sc.names []) s3.heap.objs.size code builtinsNs X.env).scope.isCoroutine = false := S.co
  generalize hcv : genEnv sc (cloFrom X.env.cells sc.names []) s3.heap.objs.size code builtinsNs X.env = cv at I5 G0 E0' g5 hco
  -- what the element's context owes of the iterator's own objects
  have owes : ∀ {τ : L2.St} {G : Hp} {t : Shared} {pn : List (Addr × Obj)}, Inv (gcx X s3 H3 cv fp) pn τ G t → (∀ c ∈ fp, G c = none) → (∀ p ∈ pn, p.1 ∉ fp) → ∀ c ∈ fp, FpOk (gcx X s3 H3 cv fp) pn G c := fun {τ G t pn} J hn hp c hc =>
    ⟨hn c hc, (J.ok.exf c hc).1, J.ok.exfs c hc, .inl hc, fun y d z => (J.ok.exf c hc).2 y d z, fun p hm z => hp p (show p ∈ pn from hm) (z ▸ hc)⟩
  have pf : ∀ p ∈ [(h'.objs.size, gob s3.gens.size s3.toks X.env.qual)], p.1 ∉ fp := fun p hp hm => by
    obtain rfl : p = _ := List.mem_singleton.mp hp
    have z := (f3 _ hm).2
    have z2 : (h'.objs.size : Nat) < s3.heap.objs.size := z
    omega
  obtain ⟨Jp, eJ⟩ : ∃ Jp : Nat → Shared → Prop, Jp = (fun i t => ∃ G, Inv (gcx X s3 H3 cv fp) [(h'.objs.size, gob s3.gens.size s3.toks X.env.qual)] (wipe σ (own.map (·.2))) G t ∧ (i ≤ n → tn i t.heap) ∧ (∀ c ∈ fp, G c = none) ∧ W (min i n) G) := ⟨_, rfl⟩
  have GW : GenW X.prog X.w X.A.in1.in1 h'.objs.size s3.gens.size cv e tg it sc gpos itr n b Jp := by
    rw [eJ]
    refine ⟨hco, I3.ok.hd hc, fun i t z => ?_, fun i t y hy z => ?_, fun i t h'' z k => ?_, fun t A' Q E z y => ?_, fun i t lt z => ?_, fun t z => ?_⟩
    · obtain ⟨G, IG, _⟩ := z
      exact ⟨⟨_, _, _, (IG.pin _ (List.mem_append_right _ (List.mem_singleton.mpr rfl))).1, rfl, rfl, rfl⟩, IG.nolimit⟩
    · obtain ⟨G, IG, r⟩ := z
      exact ⟨G, set_inv hy IG, r⟩
    · obtain ⟨G, IG, st, r⟩ := z
      exact ⟨G, IG.kept (t' := t.toks) k, fun le => T.keep _ _ _ (st le) fun c _ o y => k c o y, r⟩
    · obtain ⟨G, IG, st, r⟩ := z
      exact T.self A' 0 t Q E (st (Nat.zero_le _)) y
    · obtain ⟨G, IG, st, nn, wj⟩ := z
      rw [Nat.min_eq_left (Nat.le_of_lt lt)] at wj
      obtain ⟨go, yl⟩ := item i G lt wj
      rw [ga_eq]
      refine thnF (T.item (gcx X s3 H3 cv fp) rfl rfl rfl hc i _ t _ G (fun _ _ => False) IG (owes IG nn pf) (st (Nat.le_of_lt lt)) go) fun r t1 ⟨u, hu, h1⟩ => ⟨u, hu, ?_⟩
      refine thnF h1 fun _ t2 ⟨y, G2, I2', r2, y2, st2', n2⟩ => ?_
      refine thnF (G0.run _ t2 _ G2 y u _ (I2'.pinned (owes I2' n2 pf) (T.obj _ _ st2')) r2 (yl y G2 y2)) fun _ t3 ⟨τ, G3, I3', wp, q3⟩ => ?_
      refine thnF (E0'.run _ t3 τ G3 _ I3' q3) fun z t4 ⟨zv, G4, I4, r4, hz, w4⟩ => ?_
      subst hz
      cases (show z = Value.bool (b i) from r4)
      have pin : ∀ c ∈ fp, ∀ o, t2.heap.get? c = some o → t4.heap.get? c = some o ∧ G4 c = none := fun c hc o y =>
        let v := I4.pin (c, o) (List.mem_append_right _ (List.mem_append_right _ (mem_pinsAt hc y)))
        ⟨v.1, v.2.1⟩
      refine ⟨rfl, G4, I4.unpinned.weak (by rw [← wp, wipe_length]) (fun a v y => by rw [← wp] at y; exact (wipe_some y).1), fun _ => T.keep _ _ _ st2' fun c hc o y => (pin c hc o y).1, fun c hc => ?_, by rw [Nat.min_eq_left (show i + 1 ≤ n from lt)]; exact w4⟩
      obtain ⟨o, y, _⟩ := T.obj _ _ st2' c hc
      exact (pin c hc o y).2
    · obtain ⟨G, IG, st, nn, wj⟩ := z
      rw [Nat.min_self] at wj
      rw [ga_eq]
      refine thnF (T.done (gcx X s3 H3 cv fp) rfl rfl rfl hc n _ t _ G (fun _ _ => False) IG (owes IG nn pf) (st (Nat.le_refl _)) (stop G wj)) fun r t1 ⟨hr, I1⟩ => ?_
      exact ⟨hr, G, I1, fun le => absurd le (Nat.not_succ_le_self n), nn, by rw [Nat.min_eq_right (Nat.le_succ n)]; exact wj⟩
  refine hQ h'.objs.size s3.gens.size cv itr n b Jp s5 GW (g_fresh GW (by rw [eJ]; exact ⟨H3, I5, fun _ => st5, n3, by rw [Nat.zero_min]; exact w0⟩) g5) ?_
  · rw [eJ]
    rintro j t - ⟨G, IG, _, nn, wj⟩
    refine ⟨.bl (f n b), G, I3.call' (ch := fp) IG.os IG.base IG.hok IG.bare fun c hc => ?_, rfl, fin _ G (Nat.min_le_right _ _) wj⟩
    have z := (f3 c hc).1
    exact ⟨z.2.2.2.1, z.2.1, z.2.2.2.2.1, z.2.2.2.2.2⟩
theorem pe_allG {c P : Addr} {e tg it : Expr} {p pos gpos : Pos} {sc : Scope} {own : List (Str × Nat)} {wi : TI} {g : TG} {te : TE} {k : Nat} (hc : X.calm = true) (hr : Room k X.A) (hN : X.N.Nodup)
    (hgl : Gl X "all") (hm : X.mg "all" = none) (hb : bootBuiltins "all" = some (.builtin "all")) (TB : TabB X.base X.mg c P) (hcode : X.env.code = .ref c) (ok : BlkOk X.N X.env.scope sc own) (S : GenC sc)
    (hi : PI X tg it wi) (hs : ∀ v, genFold it X.env v = pure v)
    (hg : ∀ (s : Shared) (H : Hp) (cl : List (Str × Addr)) (C : Addr) (code : Value) (fp : List Addr), PG (gcx X s H (genEnv sc cl C code builtinsNs X.env) fp) tg g)
    (he : ∀ (s : Shared) (H : Hp) (cl : List (Str × Addr)) (C : Addr) (code : Value) (fp : List Addr), PE (gcx X s H (genEnv sc cl C code builtinsNs X.env) fp) e te)
    (hst : starEach [GX e tg it sc gpos] X.env = (false, eval (GX e tg it sc gpos) X.env) :: starEach [] X.env := by rfl) :
    PE X (.Call (.Name "all" p) [GX e tg it sc gpos] [] pos) (tG (fun n b => (List.range n).all b) P wi g te (own.map (·.2))) := by
  refine ⟨fun pins s σ H Q I h => wpAny_Call_Name_kw (ld_blt I hgl hm hb (PyProof.Rows.callWith_builtin1 ?_ hst (by rfl)))⟩
  have dp := hr.dp
  rw [hst]
  show wpAny _ _ (spliced ((false, eval (GX e tg it sc gpos) X.env) :: backTo pos (starEach [] X.env))) _ _ s
  refine Calls.spliced_cons (gen_run hc (by omega) hN TB hcode ok S hi hs hg he I h fun a gn cv itr n b J s5 GW GS0 fin => Calls.spliced_nil ?_)
  exact call_allG GW (by show X.A.depth < recursionLimit; omega) GS0 fin
theorem pe_anyG {c P : Addr} {e tg it : Expr} {p pos gpos : Pos} {sc : Scope} {own : List (Str × Nat)} {wi : TI} {g : TG} {te : TE} {k : Nat} (hc : X.calm = true) (hr : Room k X.A) (hN : X.N.Nodup)
    (hgl : Gl X "any") (hm : X.mg "any" = none) (TB : TabB X.base X.mg c P) (hcode : X.env.code = .ref c) (ok : BlkOk X.N X.env.scope sc own) (S : GenC sc)
    (hi : PI X tg it wi) (hs : ∀ v, genFold it X.env v = pure v)
    (hg : ∀ (s : Shared) (H : Hp) (cl : List (Str × Addr)) (C : Addr) (code : Value) (fp : List Addr), PG (gcx X s H (genEnv sc cl C code builtinsNs X.env) fp) tg g)
    (he : ∀ (s : Shared) (H : Hp) (cl : List (Str × Addr)) (C : Addr) (code : Value) (fp : List Addr), PE (gcx X s H (genEnv sc cl C code builtinsNs X.env) fp) e te)
    (hst : starEach [GX e tg it sc gpos] X.env = (false, eval (GX e tg it sc gpos) X.env) :: starEach [] X.env := by rfl) :
    PE X (.Call (.Name "any" p) [GX e tg it sc gpos] [] pos) (tG (fun n b => (List.range n).any b) P wi g te (own.map (·.2))) := by
  refine ⟨fun pins s σ H Q I h => wpAny_Call_Name_kw (ld_blt I hgl hm boot_any (PyProof.Rows.callWith_builtin1 ?_ hst (by rfl)))⟩
  have dp := hr.dp
  rw [hst]
  show wpAny _ _ (spliced ((false, eval (GX e tg it sc gpos) X.env) :: backTo pos (starEach [] X.env))) _ _ s
  refine Calls.spliced_cons (gen_run hc (by omega) hN TB hcode ok S hi hs hg he I h fun a gn cv itr n b J s5 GW GS0 fin => Calls.spliced_nil ?_)
  exact call_anyG GW (by show X.A.depth < recursionLimit; omega) GS0 fin
/-- the room that the element has -/
theorem room_G {k : Nat} {A : Around} {cv : Env} (r : Room (k + 1) A) : Room k (A.in1.in1.deeper cv) :=
  ⟨r.hd, by have := r.dp; show A.depth + 1 + 3 * k + 5 < _; omega, by have := r.un; show A.units + 1 + 1 + 3 + 16 * k + 200 < _; omega⟩
end
end My
/-! a def whose code object is known by its address; heaps in which tables of code objects grow -/
namespace My
open PySem PySem.Spec PyProof.Rows L2
open GxR (TabB TabG Tabbed)
section
variable {P : Program} {w : World} {K : PySem.W.Frag} {mg : Str → Option Value} {base : Heap}
theorem okC {CX : CXT} {x qual : Str} {st : Stmt} {f : Addr} {fd : FuncData} {N ps : List Str} {k : Nat} {sp : Sp} (F : Fun K x qual st f fd) (S : FnScope N ps (defScope st))
    (arity : ∀ vs H Q E, sp vs H Q E → vs.length = ps.length)
    (body : ∀ (cdv : Value) (A : Around) (outer : List Env) (s : Shared) (H : Hp) (vs : List V) (Q : VK) (E : XK), cdv = fd.code → Room k (A.deeper (envOfC qual (defScope st) s.heap.objs.size f cdv)) → sp vs H Q E →
      ∃ t, PSs (cxOf CX P w K mg base N qual (defScope st) f cdv A outer s H E).nox (defBody st) t ∧ t { nx := fun _ H' => Q .non H', rt := Q } (start N vs) H) :
    FnOk P w K mg base CX (k + 1) f fd ps sp := by
  obtain ⟨oc, od, kV, doc, pm, an, cdv, ct, osl, rfl, lk, hcd⟩ := F.ex
  refine ⟨arity, fun A outer s H args us vs Q E room e0 bnd rv want => ?_⟩
  have al := arity _ _ _ _ want
  have stay : ∀ b o, base.get? b = some o → s.heap.get? b = some o := fun b o e => (e0.bs b o e).1
  have inK : K.In s.heap := e0.mod.kin.keeps stay
  have nolim : s.heap.NoLimit := e0.mod.nolimit.keeps stay
  have kinds : ∀ y ∈ ps.zip us, (defScope st).names.lookup y.1 = some .local ∨
      ((defScope st).names.lookup y.1 = some .cell ∧ ((cellsFrom (s.heap.objs.size + 1) (defScope st).names []).lookup y.1).isSome = true) := by
    rintro ⟨n, v⟩ hy
    rcases S.par n (List.of_mem_zip hy).1 with q | q
    · exact .inl q
    · exact .inr ⟨q, PySem.W.cellsFrom_some _ _ _ (.inl q)⟩
  refine codeAny_call_function room.depth (inK _ _ lk) rfl S.co S.gen rfl (PySem.W.codeRec_of inK hcd) (bnd _ _ _ _ ?_)
  refine wpAny_newFunctionEnv_cells S.kind kinds fun env he s1 x => ?_
  subst he
  refine ⟨nolim.keeps x.toInCall.keep, codeAny_func ?_⟩
  obtain ⟨t, ht0, hq⟩ := body cdv A outer s H vs Q E rfl (room.deeper _) want
  have I := inv_start (E := E) (CX := CX) S room.hd e0 al rv x
  refine wpAny_mono (ht0.nox.run [] s1 (start N vs) H _ I hq) (fun fl s' hs => ?_) fun e s' hs => hs
  cases fl with
  | ret u =>
    obtain ⟨v, σ', H', J, rv', q⟩ := hs
    exact ⟨v, H', J.os, J.bare, J.base, J.hok, rv', q⟩
  | next =>
    obtain ⟨σ', H', J, q⟩ := hs
    exact ⟨V.non, H', J.os, J.bare, J.base, J.hok, rfl, q⟩
  | brk => exact hs.elim fun _ z => z.elim fun _ z => z.2.elim
  | cont => exact hs.elim fun _ z => z.elim fun _ z => z.2.elim
end
/-- all these tables stand in H -/
def Tbs (ps : List Addr) (H : Hp) : Prop := ∀ p ∈ ps, TabG H p
/-- H' is later than H: the tables may have grown, what else was tracked stands -/
structure Gr (ps : List Addr) (H H' : Hp) : Prop where
  tb : Tbs ps H'
  keep : ∀ c o, c ∉ ps → H c = some o → H' c = some o
theorem Gr.refl {ps : List Addr} {H : Hp} (t : Tbs ps H) : Gr ps H H := ⟨t, fun _ _ _ h => h⟩
theorem Gr.trans {ps : List Addr} {H H1 H2 : Hp} (a : Gr ps H H1) (b : Gr ps H1 H2) : Gr ps H H2 := ⟨b.tb, fun c o n h => b.keep c o n (a.keep c o n h)⟩
theorem Gr.tabbed {ps : List Addr} {H H1 H2 : Hp} {p : Addr} (a : Gr ps H H1) (hp : p ∈ ps) (t : Tabbed p H1 H2) : Gr ps H H2 := by
  refine ⟨fun q hq => ?_, fun c o n h => ?_⟩
  · by_cases e : q = p
    · rw [e]
      exact t.1
    · obtain ⟨xs, h, r⟩ := a.tb q hq
      exact ⟨xs, (t.2 q e).trans h, r⟩
  · rw [t.2 c fun e => n (e ▸ hp)]
    exact a.keep c o n h
theorem Gr.new {ps : List Addr} {H H1 : Hp} {q : Addr} {o : HO} (a : Gr ps H H1) (h : H1 q = none) : Gr ps H (upd H1 q o) := by
  refine ⟨fun p hp => ?_, fun c u n e => ?_⟩
  · obtain ⟨xs, y, r⟩ := a.tb p hp
    exact ⟨xs, by rw [upd_ne (ne_of_none y h)]; exact y, r⟩
  · have z := a.keep c u n e
    rw [upd_ne (ne_of_none z h)]
    exact z
end My
namespace My
open PySem PySem.Spec PyProof.Rows L2
open GxR (TabB TabG Tabbed)
/-- all that is no table stands -/
def Std (H H' : Hp) : Prop := ∀ c o, H c = some o → (∀ ps, o ≠ .tbl ps) → H' c = some o
theorem Gr.std {ps : List Addr} {H H' : Hp} (t : Tbs ps H) (g : Gr ps H H') : Std H H' := fun c o h n => g.keep c o (fun m => by
  obtain ⟨xs, y, _⟩ := t c m
  rw [y] at h
  exact n xs (Option.some.inj h).symm) h
section
variable {K : PySem.W.Frag} {H H' : Hp}
theorem sqL_std (s : Std H H') {a : Addr} {xs : List V} (h : SqL K H a xs) : SqL K H' a xs := by
  rcases h with (h | ⟨o, h⟩) | h
  · exact .inl (.inl (s _ _ h fun ps z => by cases z))
  · exact .inl (.inr ⟨o, s _ _ h fun ps z => by cases z⟩)
  · exact .inr h
theorem sqT_std (s : Std H H') {a : Addr} {xs : List V} (h : SqT K H a xs) : SqT K H' a xs := by
  rcases h with (h | ⟨o, h⟩) | h
  · exact .inl (.inl (s _ _ h fun ps z => by cases z))
  · exact .inl (.inr ⟨o, s _ _ h fun ps z => by cases z⟩)
  · exact .inr h
mutual
theorem dp_std (s : Std H H') : ∀ (d : PyData) (v : V), Dp K H v d → Dp K H' v d
  | .none, _, h => by
    cases h
    exact .non
  | .bool _, _, h => by
    cases h
    exact .bl _
  | .int _, _, h => by
    cases h
    exact .int _
  | .str _, _, h => by
    cases h
    exact .str _
  | .list ds, _, h => by
    cases h with
    | lst q a => exact .lst (sqL_std s q) (dps_std s ds _ a)
  | .tuple ds, _, h => by
    cases h with
    | tup q a => exact .tup (sqT_std s q) (dps_std s ds _ a)
  | .dict _, _, h => by cases h
theorem dps_std (s : Std H H') : ∀ (ds : List PyData) (vs : List V), DpAll K H vs ds → DpAll K H' vs ds
  | [], _, h => by
    cases h
    exact .nil
  | d :: ds, _, h => by
    cases h with
    | cons a r => exact .cons (dp_std s d _ a) (dps_std s ds _ r)
end
theorem dps_at : ∀ {vs : List V} {ds : List PyData} {i : Nat} {v : V}, DpAll K H vs ds → vs[i]? = some v → ∃ d, ds[i]? = some d ∧ Dp K H v d
  | _, _, _, _, .nil, e => by simp at e
  | _, _, 0, _, .cons h r, e => ⟨_, rfl, by cases e; exact h⟩
  | _, _, i + 1, _, .cons h r, e => dps_at (i := i) r e
theorem dps_len : ∀ {vs : List V} {ds : List PyData}, DpAll K H vs ds → vs.length = ds.length
  | _, _, .nil => rfl
  | _, _, .cons _ r => congrArg (· + 1) (dps_len r)
end
/-! ### len of a set of texts -/
def rLenT (w : World) : List V → Hp → VK → Prop := fun vs H Q => ∃ (a : Addr) (xs : List Str), vs = [.ref a] ∧ H a = some (SetTx w a xs) ∧ Q (.int xs.length) H
theorem lenT {X : Cx} : CallR X (.builtin "len") (rLenT X.w) := by
  intro pins s σ H vs us Q I r h
  obtain ⟨a, xs, rfl, ha, q⟩ := h
  obtain ⟨u, rfl, ru⟩ := vals1 r
  cases (show u = Value.ref a from ru)
  obtain ⟨R, _⟩ := I.hok a _ ha
  obtain ⟨nd, o, es, ep, t, ho, hex, hd, g, pm, hb, hf, _⟩ := R
  have sz : es.size = xs.length := by
    have z := pm.length_eq
    rwa [List.length_map, Array.length_toList] at z
  have line : scanBound = 4096 := rfl
  exact call_len_set ho hex hd hf (by omega) ⟨.int xs.length, H, I.tok _, ⟨_, by rw [sz]⟩, q⟩
/-! ### texts unlike -/
theorem foldT_iff : ∀ (xs acc : List Str), acc.Nodup → ((xs.foldl withT acc).length = acc.length + xs.length ↔ (acc ++ xs).Nodup)
  | [], acc, h => by simp [h]
  | x :: r, acc, h => by
    rw [List.foldl_cons, List.length_cons]
    by_cases m : x ∈ acc
    · have e : withT acc x = acc := if_pos m
      rw [e]
      have l := foldT_len r acc
      constructor
      · intro z
        omega
      · intro z
        have d := (List.nodup_append.mp z).2.2
        exact absurd rfl (d x m x List.mem_cons_self)
    · have e : withT acc x = acc ++ [x] := if_neg m
      have n := withT_nd (x := x) h
      rw [e] at n ⊢
      have ih := foldT_iff r (acc ++ [x]) n
      rw [List.length_append, List.append_assoc] at ih
      show _ ↔ (acc ++ ([x] ++ r)).Nodup
      rw [← ih]
      show _ = acc.length + (r.length + 1) ↔ _ = acc.length + 1 + r.length
      omega
theorem distT_iff (xs : List Str) : (distT xs).length = xs.length ↔ xs.Nodup := by
  have z := foldT_iff xs [] List.nodup_nil
  unfold distT
  simpa using z
end My
/-! list(a text); a text some times -/
namespace My
open PySem PySem.Spec PyProof.Rows L2
section
variable {X : Cx}
def rListS : List V → Hp → VK → Prop := fun vs H Q => ∃ x : Str, vs = [.str x] ∧ x.cps.size ≤ sizeLine ∧ ∀ p, H p = none → Q (.ref p) (upd H p (.lst (x.cps.toList.map fun c => V.str ⟨#[c]⟩)))
theorem cr_listS (hc : X.calm = true) : CallR X (.type "list") rListS := by
  intro pins s σ H vs us Q I r h
  obtain ⟨x, rfl, sz, q⟩ := h
  obtain ⟨u, rfl, tk, rfl⟩ := vals1 r
  refine call_list_str (I.ok.hd hc) x tk (fun h' tk' acc c' k e its => ?_) sz
  have vals : Vals (x.cps.toList.map fun c => V.str ⟨#[c]⟩) acc.toList := by
    have key : ∀ (cs : List Nat) (us : List Value), us.length = cs.length → (∀ (j : Nat) (v : Value), us[j]? = some v → ∃ c u, cs[j]? = some c ∧ v = Value.str ⟨#[c]⟩ u) → Vals (cs.map fun c => V.str ⟨#[c]⟩) us := fun cs => by
      induction cs with
      | nil =>
        intro us l _
        obtain rfl := List.length_eq_zero_iff.mp l
        exact .nil
      | cons c r ih =>
        intro us l h
        match us, l, h with
        | v :: us, l, h =>
          obtain ⟨c', u, e, rfl⟩ := h 0 v rfl
          obtain rfl : c = c' := Option.some.inj e
          exact .cons ⟨u, rfl⟩ (ih us (Nat.succ.inj l) fun j v hv => h (j + 1) v hv)
    refine key _ _ (by rw [Array.length_toList, Array.length_toList]; exact its.1) fun j v hv => ?_
    obtain ⟨c, u, e1, e2⟩ := its.2 j v (by rw [← Array.getElem?_toList]; exact hv)
    exact ⟨c, u, by rw [Array.getElem?_toList]; exact e1, e2⟩
  have J := I.laid (o := .lst (x.cps.toList.map fun c => V.str ⟨#[c]⟩)) (t' := tk') k (Nat.le_refl _) ⟨by rw [List.length_map, Array.length_toList]; exact sz, acc.toList, c', vals, by simpa using e⟩
  exact ⟨.ref _, _, J, rfl, q _ (I.hok.fresh (Nat.le_refl _))⟩
def rMulS : R2 := fun x y H Q => ∃ (z : Str) (k : Int), x = .str z ∧ y = .int k ∧ 2 ≤ k ∧ k ≤ 1000 ∧ 1 ≤ z.length ∧ z.length ≤ 1000 ∧ Q (.str ⟨(List.replicate k.toNat z.cps).foldl (· ++ ·) #[]⟩) H
theorem op_mulS : OpR X (binaryOp .Mult) rMulS := by
  intro pins s σ H x y v u Q I rx ry h
  obtain ⟨z, k, rfl, rfl, k2, k1, z1, z1', q⟩ := h
  obtain ⟨t, rfl⟩ := rx
  obtain ⟨t', rfl⟩ := ry
  have n1 : ¬ k < 1 := by omega
  have ne : (k == 1 || z.length == 0) = false := by
    rw [Bool.or_eq_false_iff]
    exact ⟨beq_eq_false_iff_ne.mpr (by omega), beq_eq_false_iff_ne.mpr (by omega)⟩
  have len : ∀ (m : Nat) (a : Array Nat), ((List.replicate m z.cps).foldl (· ++ ·) a).size = a.size + m * z.length := fun m => by
    induction m with
    | zero => intro a; simp
    | succ m ih =>
      intro a
      rw [List.replicate_succ, List.foldl_cons, ih, Array.size_append, Nat.succ_mul]
      show a.size + z.length + _ = _
      omega
  have sm : z.length * k.toNat ≤ 1000 * 1000 := Nat.mul_le_mul z1' (by omega)
  have line : 1000000 ≤ sizeLine := by decide
  have p63 : (2 : Int) ^ 63 = 9223372036854775808 := by decide
  refine PySem.P.mul_str ?_ (fun _ _ => ?_) (fun _ _ => ?_) ?_
  · rw [decide_eq_false (by omega), decide_eq_false (by omega)]
    rfl
  · have d : (1000 : Int) ≤ (2 ^ 63 - 1) / k := by
      rw [Int.le_ediv_iff_mul_le (by omega), p63]
      omega
    omega
  · unfold PySem.Builtin.Str.tooLong
    exact decide_eq_false (by omega)
  · rw [if_neg n1, if_neg (by rw [ne]; simp)]
    refine ⟨?_, .str _, H, I.tok _, ⟨_, rfl⟩, q⟩
    show ((List.replicate k.toNat z.cps).foldl (· ++ ·) #[]).size ≤ sizeLine
    rw [len, Nat.mul_comm]
    show 0 + _ ≤ _
    omega
end
end My
/-! a heap whose boards in the making are known by the kinds of their objects alone -/
namespace My
open PySem PySem.Spec PyProof.Rows L2
inductive Kd where
  | row | kep | crew | team
  deriving DecidableEq
structure THp (τ : Addr → Option Kd) (H : Hp) : Prop where
  row : ∀ a, τ a = some .row → ∃ ws : List Str, H a = some (.lst (ws.map V.str)) ∧ W8 ws ∧ ws.length ≤ 12
  kep : ∀ a, τ a = some .kep → ∃ (z : Str) (room : Int) (wh : Bool) (r : Addr), H a = some (.lst [.str z, .int room, .bl wh, .ref r]) ∧ Ok8 z ∧ 1 ≤ z.length ∧ 1 ≤ room ∧ room ≤ 12 ∧
    τ r = some .row ∧ (wh = false → H r ≠ some (.lst []))
  crew : ∀ a, τ a = some .crew → ∃ as : List Addr, H a = some (.lst (as.map V.ref)) ∧ (∀ k ∈ as, τ k = some .kep) ∧ as.length ≤ 8
  team : ∀ a, τ a = some .team → ∃ (l : Int) (c : Addr) (as : List Addr), H a = some (.lst [.int l, .ref c]) ∧ τ c = some .crew ∧ H c = some (.lst (as.map V.ref)) ∧ 0 ≤ l ∧ l ≤ as.length
section
variable {τ : Addr → Option Kd} {H H' : Hp}
theorem THp.some_ (t : THp τ H) {a : Addr} (h : τ a ≠ none) : H a ≠ none := by
  cases e : τ a with
  | none => exact absurd e h
  | some k =>
    cases k with
    | row => obtain ⟨ws, q, _⟩ := t.row a e; rw [q]; simp
    | kep => obtain ⟨z, room, wh, r, q, _⟩ := t.kep a e; rw [q]; simp
    | crew => obtain ⟨as, q, _⟩ := t.crew a e; rw [q]; simp
    | team => obtain ⟨l, c, as, q, _⟩ := t.team a e; rw [q]; simp
/-- what is typed stands -/
theorem THp.keep (t : THp τ H) (s : ∀ a, τ a ≠ none → H' a = H a) : THp τ H' := by
  have ne : ∀ {a k}, τ a = some k → τ a ≠ none := fun e => by rw [e]; simp
  refine ⟨fun a e => ?_, fun a e => ?_, fun a e => ?_, fun a e => ?_⟩
  · rw [s a (ne e)]
    exact t.row a e
  · obtain ⟨z, room, wh, r, q, b1, b2, b3, b4, b5, b6⟩ := t.kep a e
    exact ⟨z, room, wh, r, by rw [s a (ne e)]; exact q, b1, b2, b3, b4, b5, by rw [s r (ne b5)]; exact b6⟩
  · rw [s a (ne e)]
    exact t.crew a e
  · obtain ⟨l, c, as, q, b1, b2, b3⟩ := t.team a e
    exact ⟨l, c, as, by rw [s a (ne e)]; exact q, b1, by rw [s c (ne b1)]; exact b2, b3⟩
theorem THp.new (t : THp τ H) {p : Addr} {o : HO} (n : H p = none) : THp τ (upd H p o) := t.keep fun a h => upd_ne fun e => t.some_ h (by rw [e]; exact n)
/-- a row otherwise -/
theorem THp.setRow (t : THp τ H) {r : Addr} (hr : τ r = some .row) {ws : List Str} (w8 : W8 ws) (l : ws.length ≤ 12) (ne : H r ≠ some (.lst []) → ws ≠ []) : THp τ (upd H r (.lst (ws.map V.str))) := by
  have apart : ∀ {a k}, τ a = some k → k ≠ .row → a ≠ r := fun e n z => by rw [z, hr] at e; cases e; exact n rfl
  refine ⟨fun a e => ?_, fun a e => ?_, fun a e => ?_, fun a e => ?_⟩
  · by_cases z : a = r
    · exact ⟨ws, by rw [z]; exact upd_same, w8, l⟩
    · rw [upd_ne z]
      exact t.row a e
  · obtain ⟨z, room, wh, r', q, b1, b2, b3, b4, b5, b6⟩ := t.kep a e
    refine ⟨z, room, wh, r', by rw [upd_ne (apart e (by simp))]; exact q, b1, b2, b3, b4, b5, fun hw => ?_⟩
    by_cases y : r' = r
    · rw [y, upd_same]
      intro q2
      have q3 := ne (y ▸ b6 hw)
      cases ws with
      | nil => exact q3 rfl
      | cons _ _ => cases q2
    · rw [upd_ne y]
      exact b6 hw
  · rw [upd_ne (apart e (by simp))]
    exact t.crew a e
  · obtain ⟨l', c, as, q, b1, b2, b3⟩ := t.team a e
    exact ⟨l', c, as, by rw [upd_ne (apart e (by simp))]; exact q, b1, by rw [upd_ne (apart b1 (by simp))]; exact b2, b3⟩
/-- a keeper that forgot -/
theorem THp.forgot (t : THp τ H) {k r : Addr} {z : Str} {room : Int} {wh : Bool} (hk : τ k = some .kep) (e : H k = some (.lst [.str z, .int room, .bl wh, .ref r])) (ne : H r ≠ some (.lst [])) :
    THp τ (upd H k (.lst [.str z, .int room, .bl false, .ref r])) := by
  have apart : ∀ {a x}, τ a = some x → x ≠ .kep → a ≠ k := fun e n z => by rw [z, hk] at e; cases e; exact n rfl
  refine ⟨fun a q => ?_, fun a q => ?_, fun a q => ?_, fun a q => ?_⟩
  · rw [upd_ne (apart q (by simp))]
    exact t.row a q
  · obtain ⟨z', room', wh', r', q', b1, b2, b3, b4, b5, b6⟩ := t.kep a q
    have rk : r' ≠ k := apart b5 (by simp)
    by_cases y : a = k
    · rw [y] at q' ⊢
      rw [e] at q'
      cases q'
      exact ⟨z, room, false, r, upd_same, b1, b2, b3, b4, b5, fun _ => by rw [upd_ne rk]; exact ne⟩
    · exact ⟨z', room', wh', r', by rw [upd_ne y]; exact q', b1, b2, b3, b4, b5, by rw [upd_ne rk]; exact b6⟩
  · rw [upd_ne (apart q (by simp))]
    exact t.crew a q
  · obtain ⟨l', c, as, q', b1, b2, b3⟩ := t.team a q
    exact ⟨l', c, as, by rw [upd_ne (apart q (by simp))]; exact q', b1, by rw [upd_ne (apart b1 (by simp))]; exact b2, b3⟩
/-- one more in a crew -/
theorem THp.join (t : THp τ H) {c k : Addr} {as : List Addr} (hc : τ c = some .crew) (e : H c = some (.lst (as.map V.ref))) (hk : τ k = some .kep) (l : as.length < 8) : THp τ (upd H c (.lst ((as ++ [k]).map V.ref))) := by
  have apart : ∀ {a x}, τ a = some x → x ≠ .crew → a ≠ c := fun e n z => by rw [z, hc] at e; cases e; exact n rfl
  have inj : ∀ {xs ys : List Addr}, xs.map V.ref = ys.map V.ref → xs.length = ys.length := fun h => by
    have := congrArg List.length h
    simpa using this
  refine ⟨fun a q => ?_, fun a q => ?_, fun a q => ?_, fun a q => ?_⟩
  · rw [upd_ne (apart q (by simp))]
    exact t.row a q
  · obtain ⟨z', room', wh', r', q', b1, b2, b3, b4, b5, b6⟩ := t.kep a q
    exact ⟨z', room', wh', r', by rw [upd_ne (apart q (by simp))]; exact q', b1, b2, b3, b4, b5, by rw [upd_ne (apart b5 (by simp))]; exact b6⟩
  · by_cases y : a = c
    · refine ⟨as ++ [k], by rw [y]; exact upd_same, fun x hx => ?_, by rw [List.length_append]; exact l⟩
      rcases List.mem_append.mp hx with z | z
      · obtain ⟨bs, q', b1, _⟩ := t.crew c hc
        rw [e] at q'
        have m : as.map V.ref = bs.map V.ref := HO.lst.inj (Option.some.inj q')
        have mem : V.ref x ∈ bs.map V.ref := by rw [← m]; exact List.mem_map.mpr ⟨x, z, rfl⟩
        obtain ⟨x', hx', ex⟩ := List.mem_map.mp mem
        cases ex
        exact b1 _ hx'
      · rw [List.mem_singleton.mp z]
        exact hk
    · rw [upd_ne y]
      exact t.crew a q
  · obtain ⟨l', c', bs, q', b1, b2, b3, b4⟩ := t.team a q
    by_cases y : c' = c
    · rw [y] at b2 q' b1
      rw [e] at b2
      have m : as.map V.ref = bs.map V.ref := HO.lst.inj (Option.some.inj b2)
      refine ⟨l', c, as ++ [k], by rw [upd_ne (apart q (by simp))]; exact q', b1, upd_same, b3, ?_⟩
      have := inj m
      rw [List.length_append]
      show l' ≤ ((as.length + 1 : Nat) : Int)
      omega
    · exact ⟨l', c', bs, by rw [upd_ne (apart q (by simp))]; exact q', b1, by rw [upd_ne y]; exact b2, b3, b4⟩
/-- one more of a kind -/
def Tx (τ : Addr → Option Kd) (p : Addr) (k : Kd) : Addr → Option Kd := fun a => if a = p then some k else τ a
theorem tx_same {p : Addr} {k : Kd} : Tx τ p k p = some k := if_pos rfl
theorem tx_ne {p a : Addr} {k : Kd} (h : a ≠ p) : Tx τ p k a = τ a := if_neg h
theorem tx_old {p a : Addr} {k x : Kd} (n : τ p = none) (h : τ a = some x) : Tx τ p k a = some x := by
  rw [tx_ne fun e => by rw [e, n] at h; cases h]
  exact h
theorem tx_inv {p a : Addr} {k x : Kd} (h : Tx τ p k a = some x) : (a = p ∧ x = k) ∨ (a ≠ p ∧ τ a = some x) := by
  by_cases e : a = p
  · rw [e, tx_same] at h
    exact .inl ⟨e, (Option.some.inj h).symm⟩
  · rw [tx_ne e] at h
    exact .inr ⟨e, h⟩
theorem THp.untyped (t : THp τ H) {p : Addr} (n : H p = none) : τ p = none := by
  cases e : τ p with
  | none => rfl
  | some k => exact absurd n (t.some_ (by rw [e]; simp))
theorem THp.newRow (t : THp τ H) {p : Addr} {ws : List Str} (n : H p = none) (w8 : W8 ws) (l : ws.length ≤ 12) : THp (Tx τ p .row) (upd H p (.lst (ws.map V.str))) := by
  have u := t.untyped n
  have t' := t.new (o := .lst (ws.map V.str)) n
  refine ⟨fun a e => ?_, fun a e => ?_, fun a e => ?_, fun a e => ?_⟩
  · rcases tx_inv e with ⟨rfl, _⟩ | ⟨_, e⟩
    · exact ⟨ws, upd_same, w8, l⟩
    · exact t'.row a e
  · rcases tx_inv e with ⟨_, z⟩ | ⟨_, e⟩
    · cases z
    · obtain ⟨z, room, wh, r, q, b1, b2, b3, b4, b5, b6⟩ := t'.kep a e
      exact ⟨z, room, wh, r, q, b1, b2, b3, b4, tx_old u b5, b6⟩
  · rcases tx_inv e with ⟨_, z⟩ | ⟨_, e⟩
    · cases z
    · obtain ⟨as, q, b1, b2⟩ := t'.crew a e
      exact ⟨as, q, fun k hk => tx_old u (b1 k hk), b2⟩
  · rcases tx_inv e with ⟨_, z⟩ | ⟨_, e⟩
    · cases z
    · obtain ⟨l', c, as, q, b1, b2⟩ := t'.team a e
      exact ⟨l', c, as, q, tx_old u b1, b2⟩
theorem THp.newKep (t : THp τ H) {p r : Addr} {z : Str} {room : Int} (n : H p = none) (z8 : Ok8 z) (z1 : 1 ≤ z.length) (r1 : 1 ≤ room) (r12 : room ≤ 12) (hr : τ r = some .row) :
    THp (Tx τ p .kep) (upd H p (.lst [.str z, .int room, .bl true, .ref r])) := by
  have u := t.untyped n
  have t' := t.new (o := .lst [.str z, .int room, .bl true, .ref r]) n
  refine ⟨fun a e => ?_, fun a e => ?_, fun a e => ?_, fun a e => ?_⟩
  · rcases tx_inv e with ⟨_, z⟩ | ⟨_, e⟩
    · cases z
    · exact t'.row a e
  · rcases tx_inv e with ⟨rfl, _⟩ | ⟨_, e⟩
    · exact ⟨z, room, true, r, upd_same, z8, z1, r1, r12, tx_old u hr, fun h => nomatch h⟩
    · obtain ⟨z, room, wh, r, q, b1, b2, b3, b4, b5, b6⟩ := t'.kep a e
      exact ⟨z, room, wh, r, q, b1, b2, b3, b4, tx_old u b5, b6⟩
  · rcases tx_inv e with ⟨_, z⟩ | ⟨_, e⟩
    · cases z
    · obtain ⟨as, q, b1, b2⟩ := t'.crew a e
      exact ⟨as, q, fun k hk => tx_old u (b1 k hk), b2⟩
  · rcases tx_inv e with ⟨_, z⟩ | ⟨_, e⟩
    · cases z
    · obtain ⟨l', c, as, q, b1, b2⟩ := t'.team a e
      exact ⟨l', c, as, q, tx_old u b1, b2⟩
theorem THp.newCrew (t : THp τ H) {p : Addr} (n : H p = none) : THp (Tx τ p .crew) (upd H p (.lst [])) := by
  have u := t.untyped n
  have t' := t.new (o := .lst []) n
  refine ⟨fun a e => ?_, fun a e => ?_, fun a e => ?_, fun a e => ?_⟩
  · rcases tx_inv e with ⟨_, z⟩ | ⟨_, e⟩
    · cases z
    · exact t'.row a e
  · rcases tx_inv e with ⟨_, z⟩ | ⟨_, e⟩
    · cases z
    · obtain ⟨z, room, wh, r, q, b1, b2, b3, b4, b5, b6⟩ := t'.kep a e
      exact ⟨z, room, wh, r, q, b1, b2, b3, b4, tx_old u b5, b6⟩
  · rcases tx_inv e with ⟨rfl, _⟩ | ⟨_, e⟩
    · exact ⟨[], upd_same, (fun k h => nomatch h), Nat.zero_le _⟩
    · obtain ⟨as, q, b1, b2⟩ := t'.crew a e
      exact ⟨as, q, fun k hk => tx_old u (b1 k hk), b2⟩
  · rcases tx_inv e with ⟨_, z⟩ | ⟨_, e⟩
    · cases z
    · obtain ⟨l', c, as, q, b1, b2⟩ := t'.team a e
      exact ⟨l', c, as, q, tx_old u b1, b2⟩
theorem THp.newTeam (t : THp τ H) {p c : Addr} {as : List Addr} {l : Int} (n : H p = none) (hc : τ c = some .crew) (e : H c = some (.lst (as.map V.ref))) (l0 : 0 ≤ l) (l1 : l ≤ as.length) :
    THp (Tx τ p .team) (upd H p (.lst [.int l, .ref c])) := by
  have u := t.untyped n
  have t' := t.new (o := .lst [.int l, .ref c]) n
  refine ⟨fun a e => ?_, fun a e => ?_, fun a e => ?_, fun a q => ?_⟩
  · rcases tx_inv e with ⟨_, z⟩ | ⟨_, e⟩
    · cases z
    · exact t'.row a e
  · rcases tx_inv e with ⟨_, z⟩ | ⟨_, e⟩
    · cases z
    · obtain ⟨z, room, wh, r, q, b1, b2, b3, b4, b5, b6⟩ := t'.kep a e
      exact ⟨z, room, wh, r, q, b1, b2, b3, b4, tx_old u b5, b6⟩
  · rcases tx_inv e with ⟨_, z⟩ | ⟨_, e⟩
    · cases z
    · obtain ⟨as, q, b1, b2⟩ := t'.crew a e
      exact ⟨as, q, fun k hk => tx_old u (b1 k hk), b2⟩
  · rcases tx_inv q with ⟨rfl, _⟩ | ⟨_, q⟩
    · exact ⟨l, c, as, upd_same, tx_old u hc, by rw [upd_ne (ne_of_none e n)]; exact e, l0, l1⟩
    · obtain ⟨l', c, as, q, b1, b2⟩ := t'.team a q
      exact ⟨l', c, as, q, tx_old u b1, b2⟩
end
end My
/-! a heap whose boards are known by the kinds of their objects alone -/
namespace My
open PySem PySem.Spec PyProof.Rows L2
structure FT (τ : Addr → Option Kd) (H : Hp) : Prop where
  row : ∀ a, τ a = some .row → ∃ ws : List Str, H a = some (.lst (ws.map V.str)) ∧ W8 ws ∧ ws.length ≤ 12
  kep : ∀ a, τ a = some .kep → ∃ (z : Str) (room : Int) (wh : Bool) (r : Addr), H a = some (.tup [.str z, .int room, .bl wh, .ref r]) ∧ Ok8 z ∧ 1 ≤ z.length ∧ 1 ≤ room ∧ room ≤ 12 ∧
    τ r = some .row ∧ (wh = false → H r ≠ some (.lst []))
  crew : ∀ a, τ a = some .crew → ∃ as : List Addr, H a = some (.lst (as.map V.ref)) ∧ (∀ k ∈ as, τ k = some .kep) ∧ as.length ≤ 8
  team : ∀ a, τ a = some .team → ∃ (l : Int) (c : Addr), H a = some (.tup [.int l, .ref c]) ∧ τ c = some .crew ∧ 0 ≤ l ∧ l ≤ 9
section
variable {τ : Addr → Option Kd} {H H' : Hp}
theorem FT.some_ (t : FT τ H) {a : Addr} (h : τ a ≠ none) : H a ≠ none := by
  cases e : τ a with
  | none => exact absurd e h
  | some k =>
    cases k with
    | row => obtain ⟨ws, q, _⟩ := t.row a e; rw [q]; simp
    | kep => obtain ⟨z, room, wh, r, q, _⟩ := t.kep a e; rw [q]; simp
    | crew => obtain ⟨as, q, _⟩ := t.crew a e; rw [q]; simp
    | team => obtain ⟨l, c, q, _⟩ := t.team a e; rw [q]; simp
theorem FT.keep (t : FT τ H) (s : ∀ a, τ a ≠ none → H' a = H a) : FT τ H' := by
  have ne : ∀ {a k}, τ a = some k → τ a ≠ none := fun e => by rw [e]; simp
  refine ⟨fun a e => ?_, fun a e => ?_, fun a e => ?_, fun a e => ?_⟩
  · rw [s a (ne e)]
    exact t.row a e
  · obtain ⟨z, room, wh, r, q, b1, b2, b3, b4, b5, b6⟩ := t.kep a e
    exact ⟨z, room, wh, r, by rw [s a (ne e)]; exact q, b1, b2, b3, b4, b5, by rw [s r (ne b5)]; exact b6⟩
  · rw [s a (ne e)]
    exact t.crew a e
  · obtain ⟨l, c, q, b⟩ := t.team a e
    exact ⟨l, c, by rw [s a (ne e)]; exact q, b⟩
theorem FT.new (t : FT τ H) {p : Addr} {o : HO} (n : H p = none) : FT τ (upd H p o) := t.keep fun a h => upd_ne fun e => t.some_ h (by rw [e]; exact n)
theorem FT.put (t : FT τ H) {p : Addr} {o : HO} (n : τ p = none) : FT τ (upd H p o) := t.keep fun a h => upd_ne fun e => h (by rw [e]; exact n)
theorem FT.std (t : FT τ H) (s : ∀ c o, H c = some o → (∀ ps, o ≠ .tbl ps) → H' c = some o) : FT τ H' := t.keep fun a h => by
  cases e : τ a with
  | none => exact absurd e h
  | some k =>
    cases k with
    | row => obtain ⟨ws, q, _⟩ := t.row a e; rw [q]; exact s _ _ q fun ps z => by cases z
    | kep => obtain ⟨z, room, wh, r, q, _⟩ := t.kep a e; rw [q]; exact s _ _ q fun ps z => by cases z
    | crew => obtain ⟨as, q, _⟩ := t.crew a e; rw [q]; exact s _ _ q fun ps z => by cases z
    | team => obtain ⟨l, c, q, _⟩ := t.team a e; rw [q]; exact s _ _ q fun ps z => by cases z
theorem FT.setRow (t : FT τ H) {r : Addr} (hr : τ r = some .row) {ws : List Str} (w8 : W8 ws) (l : ws.length ≤ 12) (ne : H r ≠ some (.lst []) → ws ≠ []) : FT τ (upd H r (.lst (ws.map V.str))) := by
  have apart : ∀ {a k}, τ a = some k → k ≠ .row → a ≠ r := fun e n z => by rw [z, hr] at e; cases e; exact n rfl
  refine ⟨fun a e => ?_, fun a e => ?_, fun a e => ?_, fun a e => ?_⟩
  · by_cases z : a = r
    · exact ⟨ws, by rw [z]; exact upd_same, w8, l⟩
    · rw [upd_ne z]
      exact t.row a e
  · obtain ⟨z, room, wh, r', q, b1, b2, b3, b4, b5, b6⟩ := t.kep a e
    refine ⟨z, room, wh, r', by rw [upd_ne (apart e (by simp))]; exact q, b1, b2, b3, b4, b5, fun hw => ?_⟩
    by_cases y : r' = r
    · rw [y, upd_same]
      intro q2
      have q3 := ne (y ▸ b6 hw)
      cases ws with
      | nil => exact q3 rfl
      | cons _ _ => cases q2
    · rw [upd_ne y]
      exact b6 hw
  · rw [upd_ne (apart e (by simp))]
    exact t.crew a e
  · obtain ⟨l', c, q, b⟩ := t.team a e
    exact ⟨l', c, by rw [upd_ne (apart e (by simp))]; exact q, b⟩
theorem FT.join (t : FT τ H) {c k : Addr} {as : List Addr} (hc : τ c = some .crew) (e : H c = some (.lst (as.map V.ref))) (hk : τ k = some .kep) (l : as.length < 8) : FT τ (upd H c (.lst ((as ++ [k]).map V.ref))) := by
  have apart : ∀ {a x}, τ a = some x → x ≠ .crew → a ≠ c := fun e n z => by rw [z, hc] at e; cases e; exact n rfl
  refine ⟨fun a q => ?_, fun a q => ?_, fun a q => ?_, fun a q => ?_⟩
  · rw [upd_ne (apart q (by simp))]
    exact t.row a q
  · obtain ⟨z', room', wh', r', q', b1, b2, b3, b4, b5, b6⟩ := t.kep a q
    exact ⟨z', room', wh', r', by rw [upd_ne (apart q (by simp))]; exact q', b1, b2, b3, b4, b5, by rw [upd_ne (apart b5 (by simp))]; exact b6⟩
  · by_cases y : a = c
    · refine ⟨as ++ [k], by rw [y]; exact upd_same, fun x hx => ?_, by rw [List.length_append]; exact l⟩
      rcases List.mem_append.mp hx with z | z
      · obtain ⟨bs, q', b1, _⟩ := t.crew c hc
        rw [e] at q'
        have m : as.map V.ref = bs.map V.ref := HO.lst.inj (Option.some.inj q')
        have mem : V.ref x ∈ bs.map V.ref := by rw [← m]; exact List.mem_map.mpr ⟨x, z, rfl⟩
        obtain ⟨x', hx', ex⟩ := List.mem_map.mp mem
        cases ex
        exact b1 _ hx'
      · rw [List.mem_singleton.mp z]
        exact hk
    · rw [upd_ne y]
      exact t.crew a q
  · obtain ⟨l', c', q', b⟩ := t.team a q
    exact ⟨l', c', by rw [upd_ne (apart q (by simp))]; exact q', b⟩
theorem FT.untyped (t : FT τ H) {p : Addr} (n : H p = none) : τ p = none := by
  cases e : τ p with
  | none => rfl
  | some k => exact absurd n (t.some_ (by rw [e]; simp))
theorem FT.grow (t : FT τ H) {p : Addr} {o : HO} {k : Kd} (n : H p = none)
    (h1 : k = .row → ∃ ws : List Str, o = .lst (ws.map V.str) ∧ W8 ws ∧ ws.length ≤ 12)
    (h2 : k = .kep → ∃ (z : Str) (room : Int) (wh : Bool) (r : Addr), o = .tup [.str z, .int room, .bl wh, .ref r] ∧ Ok8 z ∧ 1 ≤ z.length ∧ 1 ≤ room ∧ room ≤ 12 ∧ τ r = some .row ∧ (wh = false → H r ≠ some (.lst [])))
    (h3 : k = .crew → o = .lst [])
    (h4 : k = .team → ∃ (l : Int) (c : Addr), o = .tup [.int l, .ref c] ∧ τ c = some .crew ∧ 0 ≤ l ∧ l ≤ 9) : FT (Tx τ p k) (upd H p o) := by
  have u := t.untyped n
  have t' := t.new (o := o) n
  refine ⟨fun a e => ?_, fun a e => ?_, fun a e => ?_, fun a e => ?_⟩
  · rcases tx_inv e with ⟨rfl, z⟩ | ⟨_, e⟩
    · obtain ⟨ws, rfl, q⟩ := h1 z.symm
      exact ⟨ws, upd_same, q⟩
    · exact t'.row a e
  · rcases tx_inv e with ⟨rfl, y⟩ | ⟨_, e⟩
    · obtain ⟨z, room, wh, r, rfl, b1, b2, b3, b4, b5, b6⟩ := h2 y.symm
      refine ⟨z, room, wh, r, upd_same, b1, b2, b3, b4, tx_old u b5, fun hw => ?_⟩
      rw [upd_ne fun z => t.some_ (a := r) (by rw [b5]; simp) (by rw [z]; exact n)]
      exact b6 hw
    · obtain ⟨z, room, wh, r, q, b1, b2, b3, b4, b5, b6⟩ := t'.kep a e
      exact ⟨z, room, wh, r, q, b1, b2, b3, b4, tx_old u b5, b6⟩
  · rcases tx_inv e with ⟨rfl, z⟩ | ⟨_, e⟩
    · exact ⟨[], by rw [h3 z.symm]; exact upd_same, (fun k h => nomatch h), Nat.zero_le _⟩
    · obtain ⟨as, q, b1, b2⟩ := t'.crew a e
      exact ⟨as, q, fun k hk => tx_old u (b1 k hk), b2⟩
  · rcases tx_inv e with ⟨rfl, z⟩ | ⟨_, e⟩
    · obtain ⟨l, c, rfl, b1, b2⟩ := h4 z.symm
      exact ⟨l, c, upd_same, tx_old u b1, b2⟩
    · obtain ⟨l', c, q, b1, b2⟩ := t'.team a e
      exact ⟨l', c, q, tx_old u b1, b2⟩
end
end My
/-! the end of a row whose law shows data and whose defs hold tables of code objects -/
namespace My
open PySem PySem.Spec PyProof.Rows L2
open GxR (TabB TabG Tabbed)
theorem law_callGT {P : Program} {w : World} {K : PySem.W.Frag} {mg mb : Str → Option Value} {CX : CXT} {k : Nat}
    {fa a : Addr} {fd : FuncData} {x : Str} {sp : Sp} {s₁ : Shared} {vs : List Value} {ns : List Int} {tabs : List (Addr × Addr)}
    (inK : K.In s₁.heap) (hns : s₁.heap.Ns mainGlobals mg) (hb : s₁.heap.Ns builtinsNs mb)
    (hbb : ∀ x : Str, x ≠ "__name__" → mb x = bootBuiltins x) (hlim : s₁.heap.NoLimit) (hgen : s₁.gens = #[])
    (tE : ∀ t ∈ tabs, s₁.heap.get? t.2 = some { cls := .none, data := .fields #[] }) (tK : ∀ t ∈ tabs, K.lookup t.2 = none)
    (tC : ∀ t ∈ tabs, PySem.W.CodeHd s₁.heap t.1 t.2)
    (bmn : ∃ (m : Addr) (om : Obj), mg "__builtins__" = some (.ref m) ∧ m ≠ builtinsNs ∧ s₁.heap.get? m = some om ∧
      om.cls = .type "module" ∧ om.dict = some builtinsNs ∧ om.data = .plain)
    (ha : s₁.heap.get? a = some { cls := .type "list", data := .seq vs.toArray }) (hi : IntsAre vs ns)
    (hl : ns.length ≤ sizeLine) (room : Room k callerA)
    (F : ∀ base : Heap, K.In base → base.Ns mainGlobals mg → (∀ t ∈ tabs, TabB base mg t.1 t.2) → FnG P w K mg base CX k fa fd [x] sp)
    (bnd : ∀ (s : Shared) (u : Value), BindsTo s fd ⟨[u], []⟩ [(x, u)])
    (hsp : ∀ H : Hp, (∀ t ∈ tabs, TabG H t.2) → SqL K H a (ns.map V.int) → sp [.ref a] H (fun v _ => v = .bl true) fun _ _ _ => False)
    (hCX : ∀ H e s', CX [] H s₁ (fun _ _ _ => False) e s' → False) :
    codeAny (model P w) callerA (.call (.ref fa) ⟨[.ref a], []⟩)
      (fun r s' => r = .ok (.ret (.bool true)) ∧ OldK s₁.heap s'.heap ∧ s'.os = s₁.os ∧ AllBare s'.gens) s₁ := by
  have rv := vals_ints hi
  let ob : Obj := { cls := .type "list", data := .seq vs.toArray }
  have isT : ∀ b, b ∈ tabs.map (·.2) → s₁.heap.get? b = some { cls := .none, data := .fields #[] } := fun b m => by
    obtain ⟨t, ht, e⟩ := List.mem_map.mp m
    exact e ▸ tE t ht
  have inT : ∀ t ∈ tabs, t.2 ∈ tabs.map (·.2) := fun t ht => List.mem_map.mpr ⟨t, ht, rfl⟩
  have notT : a ∉ tabs.map (·.2) := fun m => by
    have z := isT a m
    rw [ha] at z
    exact nomatch (congrArg Obj.data (Option.some.inj z) : Data.seq vs.toArray _ = Data.fields #[])
  have key : ∀ H : Hp, (∀ t ∈ tabs, H t.2 = some (.tbl #[])) →
      (∀ b u, H b = some u → b ∈ tabs.map (·.2) ∨ (b = a ∧ K.lookup a = none ∧ ∃ o xs, u = .frz o (.lst xs))) →
      SqL K H a (ns.map V.int) → HOk P w H s₁.heap → codeAny (model P w) callerA (.call (.ref fa) ⟨[.ref a], []⟩)
        (fun r s' => r = .ok (.ret (.bool true)) ∧ OldK s₁.heap s'.heap ∧ s'.os = s₁.os ∧ AllBare s'.gens) s₁ := by
    intro H hT only sq ok
    -- what is neither a table nor a list is not tracked
    have free : ∀ {b : Addr} {o : Obj}, s₁.heap.get? b = some o → (∀ xs n, o.data ≠ .seq xs n) → o.data ≠ .fields #[] → H b = none := by
      intro b o e n1 n2
      rcases q : H b with _ | u
      · rfl
      · rcases only b u q with m | ⟨rfl, _⟩
        · have z := (isT b m).symm.trans e
          cases z
          exact absurd rfl n2
        · have z := ha.symm.trans e
          cases z
          exact absurd rfl (n1 _ _)
    have plain : ∀ {b : Addr} {m : Str → Option Value}, s₁.heap.Ns b m → (hidT s₁.heap H).Ns b m := by
      rintro b m ⟨o, es, ep, e, d, r⟩
      refine ⟨o, es, ep, hidT_get e (free e (fun xs n z => ?_) fun z => ?_), d, r⟩
      · cases d.symm.trans z
      · cases d.symm.trans z
    have kb : K.In (hidT s₁.heap H) := fun b o e => hidT_get (inK b o e) (by
      rcases q : H b with _ | u
      · rfl
      · rcases only b u q with m | ⟨rfl, n, _⟩
        · obtain ⟨t, ht, et⟩ := List.mem_map.mp m
          have z := tK t ht
          rw [et, e] at z
          cases z
        · rw [e] at n
          cases n)
    have md : Mod K mg (hidT s₁.heap H) :=
      ⟨kb, plain hns, ⟨mb, plain hb, hbb⟩, hlim.elim fun mc z => ⟨mc, plain z.1, z.2⟩⟩
    have tb : ∀ t ∈ tabs, TabB (hidT s₁.heap H) mg t.1 t.2 := by
      intro t ht
      have eT := tE t ht
      constructor
      · obtain ⟨o, us, f1, f2, f3, f4, f5, f6, f7, e1, c1, d1, sz, rest⟩ := tC t ht
        refine ⟨o, us, f1, f2, f3, f4, f5, f6, f7, hidT_get e1 (free e1 (fun xs n z => ?_) fun z => ?_), c1, d1, sz, rest⟩
        · cases d1.symm.trans z
        · cases d1.symm.trans z
          simp at sz
      · obtain ⟨m, om, b1, b2, b3, b4, b5, b6⟩ := bmn
        have away : m ≠ mainGlobals := by
          rintro rfl
          obtain ⟨o, es, ep, e, d, _⟩ := hns
          cases b3.symm.trans e
          cases b6.symm.trans d
        have away2 : m ≠ t.2 := by
          rintro rfl
          cases b3.symm.trans eT
          cases b6
        refine ⟨m, om, b1, b2, away, away2, hidT_get b3 (free b3 (fun xs n z => ?_) fun z => ?_), b4, b5, b6⟩
        · cases b6.symm.trans z
        · cases b6.symm.trans z
      · intro z
        obtain ⟨o, es, ep, e, d, _⟩ := hns
        rw [z] at e
        cases e.symm.trans eT
        cases d
    have e0 : Env0 P w K mg (hidT s₁.heap H) callerA [] s₁ H :=
      ⟨rfl, md, fun b o e => of_hidT e, Nat.le_of_eq (hidT_size _ _), trivial, (by intro b z; cases z), ok, .of_eq hgen⟩
    have tg : ∀ t ∈ tabs, TabG H t.2 := fun t ht => ⟨#[], hT t ht, by trivial⟩
    have run := (F _ kb (plain hns) tb).go callerA [] s₁ H ⟨[.ref a], []⟩ [.ref a] [.ref a] _ _ rfl room e0
      (bnd s₁ (.ref a)) (.cons rfl .nil) (hsp H tg sq)
    refine codeAny_mono run fun out s' h => ?_
    rcases out with e | fl
    · exact (hCX H e s' h).elim
    · cases fl with
      | next => exact h.elim
      | brk => exact h.elim
      | cont => exact h.elim
      | ret u =>
        obtain ⟨v, H', os, bare, un, ok', r', q⟩ := h
        cases (show v = .bl true from q)
        cases (show u = Value.bool true from r')
        have stays : ∀ b o, b ∉ tabs.map (·.2) → s₁.heap.get? b = some o → s'.heap.get? b = some o := by
          intro b o nb e
          rcases q2 : H b with _ | u2
          · exact un.keep b o e q2 (by intro y; cases y) (by intro y; cases y)
          · rcases only b u2 q2 with m | ⟨_, _, o2, xs2, rfl⟩
            · exact absurd m nb
            · have e1 := (ok b _ q2).1
              have e2 := (ok' b _ (un.frzs b o2 _ q2)).1
              cases e1.symm.trans e
              exact e2
        have grown : ∀ t ∈ tabs, ∃ more : Array Value, s'.heap.get? t.2 = some { cls := .none, data := .fields more } := by
          intro t ht
          obtain ⟨more, z⟩ := un.tbls t.2 #[] (hT t ht)
          exact ⟨_, ok' t.2 _ z⟩
        refine ⟨rfl, ⟨fun b o e => ?_, fun b o e => ?_⟩, os, bare⟩
        · by_cases m : b ∈ tabs.map (·.2)
          · obtain ⟨t, ht, rfl⟩ := List.mem_map.mp m
            obtain ⟨more, g⟩ := grown t ht
            cases (tE t ht).symm.trans e
            exact .inr (.inl ⟨((tC t ht).tab (tE t ht)).isCodeTable, rfl, #[], more, rfl, by rw [Array.empty_append]; exact g⟩)
          · exact .inl (stays b o m e)
        · by_cases m : b ∈ tabs.map (·.2)
          · obtain ⟨t, ht, rfl⟩ := List.mem_map.mp m
            obtain ⟨more, g⟩ := grown t ht
            exact ⟨_, g⟩
          · exact ⟨o, stays b o m e⟩
  let T0 : Hp := fun b => if b ∈ tabs.map (·.2) then some (.tbl #[]) else none
  have t0 : ∀ t ∈ tabs, T0 t.2 = some (.tbl #[]) := fun t ht => if_pos (inT t ht)
  have t1 : ∀ b u, T0 b = some u → b ∈ tabs.map (·.2) ∧ u = .tbl #[] := by
    intro b u z
    by_cases m : b ∈ tabs.map (·.2)
    · exact ⟨m, (Option.some.inj ((if_pos m).symm.trans z)).symm⟩
    · cases (if_neg m).symm.trans z
  have okT : ∀ b, b ∈ tabs.map (·.2) → ObjOk P w T0 s₁.heap b (.tbl #[]) := fun b m => isT b m
  cases hk : K.lookup a with
  | some o =>
    have e := inK a o hk
    rw [ha] at e
    cases e
    refine key T0 t0 (fun b u z => .inl (t1 b u z).1) ?_ fun b u z => ?_
    · exact .inr ⟨_, vs.toArray, _, hk, rfl, rfl, rfl, by rw [List.size_toArray, hi.length]; exact hl, by simpa using rv⟩
    · obtain ⟨m, rfl⟩ := t1 b u z
      exact isT b m
  | none =>
    have na : T0 a = none := if_neg notT
    have here : (upd T0 a (.frz ob (.lst (ns.map V.int)))) a = some (.frz ob (.lst (ns.map V.int))) := upd_same
    refine key (upd T0 a (.frz ob (.lst (ns.map V.int)))) (fun t ht => ?_) (fun b u z => ?_) (.inl (.inr ⟨ob, here⟩)) fun b u z => ?_
    · rw [upd_ne fun z : t.2 = a => notT (z ▸ inT t ht)]
      exact t0 t ht
    · by_cases hb : b = a
      · subst hb
        rw [here] at z
        exact .inr ⟨rfl, hk, _, _, (Option.some.inj z).symm⟩
      · rw [upd_ne hb] at z
        exact .inl (t1 b u z).1
    · by_cases hb : b = a
      · subst hb
        rw [here] at z
        cases z
        exact ⟨ha, by rw [List.length_map]; exact hl, vs, _, rv, ha⟩
      · rw [upd_ne hb] at z
        obtain ⟨m, rfl⟩ := t1 b u z
        exact isT b m
/-- what the law's own call asks, with the tables of defs by name -/
def TabsOf (q : Program) (K : PySem.W.Frag) (h : Heap) : Prop := ∀ (x : Str) (c p : Addr), ((recsOf q).any fun e => e.name == x) = true →
  PySem.W.tabIn K x = some (c, p) → PySem.W.CodeHd h c p ∧ h.get? p = some { cls := .none, data := .fields #[] }
def LawGT (l : PySem.W.OpenLaw) (w : World) (K : PySem.W.Frag) (CX : CXT) (k n : Nat) (x : Str) (mg : Str → Option Value) (fa : Addr) (h : Heap) : Prop :=
  ∃ (fd : FuncData) (tabs : List (Addr × Addr)) (sp : Sp), (∀ t ∈ tabs, (PySem.W.CodeHd h t.1 t.2 ∧ h.get? t.2 = some { cls := .none, data := .fields #[] }) ∧ K.lookup t.2 = none) ∧
    (∀ (s : Shared) (u : Value), BindsTo s fd ⟨[u], []⟩ [(x, u)]) ∧
    (∀ (H : Hp) (a : Addr) (ns : List Int), ns.length ≤ n → (∀ t ∈ tabs, TabG H t.2) → SqL K H a (ns.map V.int) → sp [.ref a] H (fun v _ => v = .bl true) fun _ _ _ => False) ∧
    ∀ base : Heap, K.In base → base.Ns mainGlobals mg → (∀ t ∈ tabs, TabB base mg t.1 t.2) → FnG l.prog w K mg base CX k fa fd [x] sp
theorem walk_ofGT {l : PySem.W.OpenLaw} {n k : Nat} {q : Program} {loose : List Str} {XP : (Str → Option Value) → Heap → Prop}
    {YP : World → Heap → Prop} {d : DefRec} {K : Params → PySem.W.Frag} {CX : World → CXT} {x : Str}
    (hn : l.most = some n) (hn2 : n ≤ sizeLine) (hdf : d.params.defaults = []) (room : Room k callerA)
    (hY : ∀ (w : World) (h : Heap), YP w h → (K w.params).In h)
    (F : ∀ (w : World) (mg : Str → Option Value) (fa : Addr) (h : Heap), (K w.params).In h → h.Ns mainGlobals mg →
      mg d.name = some (.ref fa) → TabsOf q (K w.params) h → LawGT l w (K w.params) (CX w) k n x mg fa h)
    (hCX : ∀ (w : World) (H : Hp) (s : Shared) (e : Value) (s' : Shared), CX w [] H s (fun _ _ _ => False) e s' → False) :
    PySem.W.WalkO q loose XP YP l.row.toRowW d [] (fun f vs => PySem.call f vs) := by
  refine Att.attach_callB hn hdf fun w s₀ s₁ mg mb fa o pm cd doc a vs ns G Y _ _ _ hmg hobj hints hlen _ hgen => ?_
  have kx := hY w _ Y
  have ts : TabsOf q (K w.params) s₁.heap := fun x c p hx ht => by
    obtain ⟨e, he, hn⟩ := List.any_eq_true.mp hx
    rcases hf : (recsOf q).find? (fun e => e.name == x) with _ | d'
    · exact absurd hn (by simpa using List.find?_eq_none.mp hf e he)
    · exact PySem.W.tab_of G.T kx hf ht
  obtain ⟨fd, tabs, sp, ht, bnd, hsp, hF⟩ := F w mg fa _ kx G.T.g hmg ts
  exact law_callGT kx G.T.g G.T.b G.T.builtins G.T.nolimit hgen (fun t h => (ht t h).1.2) (fun t h => (ht t h).2) (fun t h => (ht t h).1.1) G.T.bmain
    hobj hints (Nat.le_trans hlen hn2) room hF bnd (fun H tg sq => hsp H a ns hlen tg sq) fun H e s' => hCX w H s₁ e s'
end My
/-! xs[::-1]; xs + ys of lists of any origin -/
namespace My
open PySem PySem.Spec PyProof.Rows L2
def tRev (K : PySem.W.Frag) (te : TE) (ts : TO) : TE := fun σ H Q => te σ H fun x H1 => ts σ H1 fun st H2 => st = some (-1) ∧ ∃ a xs, x = .ref a ∧ SqL K H2 a xs ∧
  ∀ l, H2 l = none → Q (.ref l) (upd H2 l (.lst xs.reverse))
section
variable {X : Cx} {e se : Expr} {te : TE} {ts : TO} {pos p2 : Pos}
theorem pe_rev (he : PE X e te) (hst : PO X (some se) ts) : PE X (.Subscript e (.Slice none none (some se) p2) pos) (tRev X.K te ts) := by
  refine ⟨fun pins s σ H Q I h => ?_⟩
  refine Subscript_ (thn (he.run pins s σ H _ I h) fun v s1 z => ?_)
  obtain ⟨x, H1, I1, r1, q1⟩ := z
  refine wpAny_Slice ?_
  rw [evalPart_none]
  refine wpAny_pure (wpAny_pure ?_)
  refine thn (hst.run pins s1 σ H1 _ I1 q1) fun vst s2 z => ?_
  obtain ⟨o, H2, I2, part, rfl, a, xs, rfl, hx, q⟩ := z
  cases r1
  let nu : Obj := { cls := .type "slice", data := .fields #[.none, .none, vst] }
  have I3 : Inv X pins σ H2 { s2 with heap := s2.heap.push nu } := I2.kept (t' := s2.toks) fun b ob y => Heap.get?_push_of_some _ y
  obtain ⟨its, r, ht, hz⟩ := I3.list hx
  have hlen := r.length
  refine tail_any (ops := [.ref a, .ref s2.heap.objs.size]) ht.isList.typeIs slot_list_getitem.lookup ?_ (by with_unfolding_all rfl)
  refine wpAny_getItem_list_slice ht.isList (Heap.IsSliceOf.new ..) .none .none part (by decide) ?_ (by rw [List.size_toArray]; omega)
  rw [PySem.W.krv_pick]
  have fr : H2 (s2.heap.push nu).objs.size = none := I3.hok.fresh (Nat.le_refl _)
  refine ⟨.ref (s2.heap.push nu).objs.size, _, I3.laid (t' := s2.toks) (o := .lst xs.reverse) (fun b ob y => Heap.get?_push_of_some _ y) (Nat.le_refl _) ?_, rfl, q _ fr⟩
  exact ⟨by rw [List.length_reverse]; exact hz, _, 0, r.reverse, Heap.get?_push_size _ rfl⟩
/-- a list and another one, whatever they come from -/
def rCatL (K : PySem.W.Frag) : R2 := fun x y H Q => ∃ l b xs zs, x = .ref l ∧ y = .ref b ∧ SqL K H l xs ∧ SqL K H b zs ∧ xs.length + zs.length ≤ sizeLine ∧
  ∀ p, H p = none → Q (.ref p) (upd H p (.lst (xs ++ zs)))
theorem op_catL {K : PySem.W.Frag} (eK : X.K = K) : OpR X (binaryOp .Add) (rCatL K) := by
  subst eK
  intro pins s σ H x y v u Q I rx ry h
  obtain ⟨l, b, xs, zs, rfl, rfl, h1, h2, hz, q⟩ := h
  cases rx
  cases ry
  obtain ⟨i1, v1, ⟨⟨c1, d1, t1, w1⟩, n1, e1, k1, z1, f1⟩, _⟩ := I.list h1
  obtain ⟨i2, v2, ⟨⟨c2, d2, t2, w2⟩, n2, e2, k2, z2, f2⟩, _⟩ := I.list h2
  simp only at k1 z1 f1 k2 z2 f2
  subst k1 z1 f1 k2 z2 f2
  have g1 := v1.length
  have g2 := v2.length
  refine concat_meets ⟨_, e1, rfl⟩ ⟨_, e2, rfl⟩ noFill_list_add seq_list_add PySem.F.slot_list_add PySem.F.entry_list_add (PySem.F.args_list_add_2 _ _)
    (list_addW l b i1.toArray i2.toArray n1 n2 none none w1 w2 (by rw [List.size_toArray, List.size_toArray]; omega)) ⟨e1, e2, ?_⟩
  have ea : i1.toArray ++ i2.toArray = (i1 ++ i2).toArray := by simp
  rw [ea]
  exact ⟨.ref _, _, I.lnew (t' := s.toks) (v1.append v2) (by rw [List.length_append]; exact hz), rfl, q _ I.fresh⟩
end
end My
/-! dicts whose keys are the texts of a list; lists written with stars -/
namespace My
open PySem PySem.Spec PyProof.Rows L2
section
variable {X : Cx} {K : PySem.W.Frag}
theorem pa_starK {es : List Expr} {e : Expr} {p : Pos} {te : TE} {t : TA} (eK : X.K = K) (he : PE X e te) (hr : PA X es t) (hs : starEach (.Starred e p :: es) X.env = (true, eval e X.env) :: starEach es X.env := by rfl) : PA X (.Starred e p :: es) (StX.tStar K te t) := by
  subst eK
  exact StX.pa_star he hr hs
end
section
variable {J : It} {n : Nat} {G : Hp → Prop} {Y : Nat → Hp → V → Hp → Prop}
/-- a dict comprehension over a walk: Pv by the turn and the heap (the new dict at D within) -/
theorem dc_it (w : Walk J n G Y) {g : TG} {tt : TT} {tk tv : TE} {vs : List Nat} {σ : L2.St} {H1 : Hp} {D : Addr} {Qd : Hp → Prop} (Pv : Nat → Hp → Prop) (h0 : Pv 0 (upd H1 D (.dK []))) (hG : ∀ i H, i ≤ n → Pv i H → G H)
    (hs : ∀ i x H H', i < n → Pv i H → Y i H x H' → g x (wipe σ vs) H' fun σ2 H2 => wipe σ2 vs = wipe σ vs ∧ tt σ2 H2 fun b H3 =>
      if b = true then tk σ2 H3 fun y H4 => tv σ2 H4 fun z H5 => ∃ kvs k, y = kV k ∧ H5 D = some (.dK kvs) ∧ kvs.length < sizeLine ∧ Pv (i + 1) (upd H5 D (.dK (putK kvs k z))) else Pv (i + 1) H3) (hd : ∀ H, Pv n H → Qd H) :
    ∃ W : Nat → Nat → Hp → Prop, (∃ m, W 0 m (upd H1 D (.dK []))) ∧ ∀ i m H, W i m H →
      (J.stop i H ∧ Qd H) ∨ (J.go i H ∧ ∃ Nx : Hp → Prop, (∀ H', Nx H' → ∃ m', m' < m ∧ W (i + 1) m' H') ∧ ∀ x H', J.yld i H x H' → g x (wipe σ vs) H' fun σ2 H2 => wipe σ2 vs = wipe σ vs ∧ tt σ2 H2 fun b H3 =>
        if b = true then tk σ2 H3 fun y H4 => tv σ2 H4 fun z H5 => ∃ kvs k, y = kV k ∧ H5 D = some (.dK kvs) ∧ kvs.length < sizeLine ∧ Nx (upd H5 D (.dK (putK kvs k z))) else Nx H3) := by
  refine ⟨fun i m H => m = n - i ∧ i ≤ n ∧ Pv i H, ⟨n, by simp, Nat.zero_le _, h0⟩, ?_⟩
  rintro i m H ⟨rfl, hi, p⟩
  have q := hG i H hi p
  by_cases hlt : i < n
  · exact .inr ⟨w.goes i H hlt q, Pv (i + 1), fun H' p' => ⟨n - (i + 1), by omega, rfl, hlt, p'⟩, fun x H' y => hs i x H H' hlt p (w.yields i H x H' hlt q y)⟩
  · have e : i = n := by omega
    subst e
    exact .inl ⟨w.stops H q, hd H p⟩
end
abbrev kS (z : Str) : Key := Sum.inr z
/-- the keys of the dict at d are the texts of ws -/
def KeysOf (kvs : List (Key × V)) (ws : List Str) : Prop := (∀ z : Str, (valV kvs (kS z)).isSome = decide (z ∈ ws)) ∧ kvs.length ≤ ws.length
def DLot (H : Hp) (d : Addr) (ws : List Str) : Prop := ∃ kvs : List (Key × V), H d = some (.dK kvs) ∧ KeysOf kvs ws
theorem KeysOf.nil : KeysOf [] [] := ⟨fun z => rfl, Nat.le_refl _⟩
theorem KeysOf.put {kvs : List (Key × V)} {ws : List Str} (h : KeysOf kvs ws) (y : Str) (v : V) : KeysOf (putK kvs (kS y) v) (ws ++ [y]) := by
  refine ⟨fun z => ?_, ?_⟩
  · rw [valV_put]
    by_cases e : kS z = kS y
    · have e1 : z = y := Sum.inr.inj e
      rw [if_pos e, e1]
      symm
      exact decide_eq_true (by simp)
    · have e1 : ¬ z = y := fun q => e (by rw [q])
      rw [if_neg e, h.1 z]
      by_cases m : z ∈ ws
      · rw [decide_eq_true m, decide_eq_true (by simp [m])]
      · rw [decide_eq_false m, decide_eq_false (by simp [m, e1])]
  · have := length_putK kvs (kS y) v
    rw [List.length_append]
    show _ ≤ _ + 1
    have := h.2
    omega
theorem DLot.get {H : Hp} {d : Addr} {ws : List Str} (h : DLot H d ws) (z : Str) : ∃ o, DGet H d (.str z) o ∧ o.isSome = decide (z ∈ ws) := by
  obtain ⟨kvs, e, k⟩ := h
  exact ⟨_, DGet.k (k := kS z) e, k.1 z⟩
theorem DLot.same {H H' : Hp} {d : Addr} {ws : List Str} (h : DLot H d ws) (s : Same H H') : DLot H' d ws := by
  obtain ⟨kvs, e, k⟩ := h
  exact ⟨kvs, s _ _ e, k⟩
/-- what is left of a lot, step by step -/
def frees (b : List Str → Str → Bool) (ws : List Str) : List Str := ws.filter fun z => !b ws z
def less (ws fs : List Str) : List Str := ws.filter fun z => decide (z ∉ fs)
def lots (b : List Str → Str → Bool) (ws : List Str) : Nat → List Str
  | 0 => ws
  | n + 1 => less (lots b ws n) (frees b (lots b ws n))
def frs (b : List Str → Str → Bool) (ws : List Str) (n : Nat) : List Str := frees b (lots b ws n)
/-- round by round to the end -/
def LastR (b : List Str → Str → Bool) (ws : List Str) (n : Nat) : Prop := frs b ws n = [] ∧ ∀ i : Nat, i < n → frs b ws i ≠ []
theorem LastR.uniq {b : List Str → Str → Bool} {ws : List Str} {n m : Nat} (h : LastR b ws n) (k : LastR b ws m) : n = m := by
  rcases Nat.lt_trichotomy n m with l | l | l
  · exact absurd h.1 (k.2 n l)
  · exact l
  · exact absurd k.1 (h.2 m l)
theorem less_sub {ws fs : List Str} : ∀ z ∈ less ws fs, z ∈ ws := fun z h => (List.mem_filter.mp h).1
theorem lots_sub {b : List Str → Str → Bool} {ws : List Str} : ∀ n : Nat, ∀ z ∈ lots b ws n, z ∈ ws
  | 0, z, h => h
  | n + 1, z, h => lots_sub n z (less_sub z h)
theorem less_len {ws fs : List Str} (h : fs ≠ []) (s : ∀ z ∈ fs, z ∈ ws) : (less ws fs).length < ws.length := by
  obtain ⟨x, r, rfl⟩ : ∃ x r, fs = x :: r := by
    cases fs with
    | nil => exact absurd rfl h
    | cons x r => exact ⟨x, r, rfl⟩
  refine List.length_filter_lt_length_iff_exists.mpr ⟨x, s x List.mem_cons_self, by simp⟩
theorem frees_sub {b : List Str → Str → Bool} {ws : List Str} : ∀ z ∈ frees b ws, z ∈ ws := fun z h => (List.mem_filter.mp h).1
theorem lots_len {b : List Str → Str → Bool} {ws : List Str} : ∀ n : Nat, (∀ i : Nat, i < n → frs b ws i ≠ []) → (lots b ws n).length + n ≤ ws.length
  | 0, _ => Nat.le_refl _
  | n + 1, h => by
    have a := lots_len n fun i l => h i (Nat.lt_succ_of_lt l)
    have c := less_len (ws := lots b ws n) (fs := frees b (lots b ws n)) (h n (Nat.lt_succ_self n)) frees_sub
    show (less (lots b ws n) (frees b (lots b ws n))).length + (n + 1) ≤ _
    omega
theorem lots_le {b : List Str → Str → Bool} {ws : List Str} : ∀ n : Nat, (lots b ws n).length ≤ ws.length
  | 0 => Nat.le_refl _
  | n + 1 => Nat.le_trans (List.length_filter_le _ _) (lots_le n)
theorem frs_len {b : List Str → Str → Bool} {ws : List Str} (n : Nat) : (frs b ws n).length ≤ ws.length := Nat.le_trans (List.length_filter_le _ _) (lots_le n)
theorem frs_sub {b : List Str → Str → Bool} {ws : List Str} (n : Nat) : ∀ z ∈ frs b ws n, z ∈ ws := fun z h => lots_sub n z (frees_sub z h)
end My
namespace My
open PySem PySem.Spec PyProof.Rows L2
theorem while_ix {c : TT} {tb : TS} {D : Ends} {σ : L2.St} {H : Hp} (n : Nat) (Pv : Nat → L2.St → Hp → Prop) (h0 : Pv 0 σ H)
    (hs : ∀ i σ H, Pv i σ H → c σ H fun b H1 => if b = true then i < n ∧ tb { D with nx := Pv (i + 1), ct := Pv (i + 1), bk := D.nx } σ H1 else D.nx σ H1)
    (mono : ∀ σ H Q Q', (∀ b H1, Q b H1 → Q' b H1) → c σ H Q → c σ H Q') : tWhile c tb D σ H := by
  refine ⟨fun m σ H => ∃ i, m = n - i ∧ Pv i σ H, ⟨_, 0, rfl, h0⟩, ?_⟩
  rintro m σ H ⟨i, rfl, p⟩
  refine mono σ H _ _ (fun b H1 q => ?_) (hs i σ H p)
  cases b with
  | true => exact ⟨_, fun σ' H' p' => ⟨n - (i + 1), by have := q.1; omega, i + 1, rfl, p'⟩, q.2⟩
  | false => exact q
theorem paired_range {α : Type} {F : α → Nat → Prop} {xs : List α} {n : Nat} {x : α} (h : Paired F xs (List.range n)) (q : F x n) : Paired F (xs ++ [x]) (List.range (n + 1)) := by
  rw [List.range_succ]
  have app : ∀ {xs : List α} {ys : List Nat}, Paired F xs ys → Paired F (xs ++ [x]) (ys ++ [n]) := fun h => by
    induction h with
    | nil => exact .cons q .nil
    | cons a _ ih => exact .cons a ih
  exact app h
theorem nodup_snoc {α : Type} {l : List α} {k : α} (h : l.Nodup) (hk : ¬ k ∈ l) : (l ++ [k]).Nodup := by
  rw [List.nodup_append]
  refine ⟨h, by simp, fun a ha b hb e => ?_⟩
  rw [List.mem_singleton.mp hb] at e
  rw [e] at ha
  exact hk ha
end My
namespace My
open PySem PySem.Spec PyProof.Rows L2
theorem gn_nx {i : Nat} {v : V} {σ : L2.St} {H : Hp} {f r b c} (h : f (σ.set i (some v)) H) : gName i v σ H ({ nx := f, rt := r, bk := b, ct := c } : Ends).nx := h
theorem sq_of {t1 t2 : TS} {D : Ends} {σ : L2.St} {H : Hp} (h : t1 { D with nx := t2 D } σ H) : tSeq t1 t2 D σ H := h
end My
namespace My
open PySem PySem.Spec PyProof.Rows L2
/-- [z for z in us if p z], us a list of texts -/
theorem lc_fil {K : PySem.W.Frag} {x D : Addr} {us : List Str} {j : Nat} {tt : TT} {σ : L2.St} {G : Hp} {Qd : Hp → Prop} (p : Str → Bool) (I : Hp → Prop)
    (hw : ∀ z : Str, wipe ((wipe σ [j]).set j (some (.str z))) [j] = wipe σ [j]) (hv : ∀ z : Str, ((wipe σ [j]).set j (some (.str z)))[j]? = some (some (V.str z)))
    (lz : us.length ≤ 100000) (h0 : I (upd G D (.lst []))) (hsq : ∀ F, I F → SqL K F x (us.map V.str)) (hput : ∀ F acc y, I F → F D = some (.lst acc) → I (upd F D (.lst (acc ++ [y]))))
    (test : ∀ (i : Nat) (z : Str) (F : Hp) (acc : List V) (N : Bool → Hp → Prop), us[i]? = some z → I F → F D = some (.lst acc) → (∀ F1, I F1 → F1 D = some (.lst acc) → N (p z) F1) → tt ((wipe σ [j]).set j (some (.str z))) F N)
    (done : ∀ F, I F → F D = some (.lst ((us.filter p).map V.str)) → Qd F) :
    ∃ W : Nat → Nat → Hp → Prop, (∃ m, W 0 m (upd G D (.lst []))) ∧ ∀ i m H, W i m H →
      ((Itl K x).stop i H ∧ Qd H) ∨ ((Itl K x).go i H ∧ ∃ Nx : Hp → Prop, (∀ H', Nx H' → ∃ m', m' < m ∧ W (i + 1) m' H') ∧ ∀ y H', (Itl K x).yld i H y H' → gName j y (wipe σ [j]) H' fun σ2 H2 => wipe σ2 [j] = wipe σ [j] ∧ tt σ2 H2 fun b H3 =>
        if b = true then tVar j σ2 H3 fun y H4 => ∃ acc, H4 D = some (.lst acc) ∧ acc.length < sizeLine ∧ Nx (upd H4 D (.lst (acc ++ [y]))) else Nx H3) := by
  refine lc_list (K := K) (a := x) (xs := us.map V.str) (fun i F => I F ∧ F D = some (.lst (((us.take i).filter p).map V.str))) ⟨h0, upd_same⟩ (fun i F _ z => hsq F z.1) ?_ ?_
  · rintro i y F hi ⟨iF, hD⟩
    obtain ⟨z, hz, rfl⟩ : ∃ z, us[i]? = some z ∧ y = V.str z := by
      rw [List.getElem?_map] at hi
      cases e : us[i]? with
      | none => rw [e] at hi; cases hi
      | some z => rw [e] at hi; exact ⟨z, rfl, (Option.some.inj hi).symm⟩
    have ft : (us.take (i + 1)).filter p = (us.take i).filter p ++ if p z = true then [z] else [] := by
      rw [List.take_succ, hz, List.filter_append]
      congr 1
      show List.filter p [z] = _
      rw [List.filter_cons, List.filter_nil]
    have fl := List.length_filter_le p (us.take i)
    have tl := List.length_take_le i us
    refine ⟨hw z, test i z F _ _ hz iF hD fun F1 i1 hD1 => ?_⟩
    cases hp : p z with
    | true =>
      rw [if_pos rfl]
      rw [hp, if_pos rfl] at ft
      refine ⟨_, hv z, _, hD1, ?_, hput _ _ _ i1 hD1, ?_⟩
      · have : us.length < sizeLine := Nat.lt_of_le_of_lt lz (by rw [sizeLine_eq]; decide)
        rw [List.length_map]
        have : (us.take i).length ≤ us.length := List.length_take_le' i us
        omega
      · rw [upd_same, ft, List.map_append]
        rfl
    | false =>
      rw [if_neg (by simp)]
      rw [hp, if_neg (by simp), List.append_nil] at ft
      exact ⟨i1, by rw [ft]; exact hD1⟩
  · rintro F ⟨iF, hD⟩
    rw [List.length_map, List.take_of_length_le (Nat.le_refl _)] at hD
    exact done F iF hD
end My
namespace My
open PySem PySem.Spec PyProof.Rows L2
/-- the keys of the dict at d are the texts of ws -/
def DKeys (H : Hp) (d : Addr) (ws : List Str) : Prop := ∃ kvs : List (Key × V), H d = some (.dK kvs) ∧ ∀ z : Str, (valV kvs (kS z)).isSome = decide (z ∈ ws)
theorem DKeys.get {H : Hp} {d : Addr} {ws : List Str} (h : DKeys H d ws) (z : Str) : ∃ o, DGet H d (.str z) o ∧ o.isSome = decide (z ∈ ws) := by
  obtain ⟨kvs, e, k⟩ := h
  exact ⟨_, DGet.k (k := kS z) e, k z⟩
theorem DKeys.same {H H' : Hp} {d : Addr} {ws : List Str} (h : DKeys H d ws) (s : Same H H') : DKeys H' d ws := by
  obtain ⟨kvs, e, k⟩ := h
  exact ⟨kvs, s _ _ e, k⟩
theorem DKeys.alike {H : Hp} {d : Addr} {ws us : List Str} (h : DKeys H d ws) (m : ∀ z, z ∈ ws ↔ z ∈ us) : DKeys H d us := by
  obtain ⟨kvs, e, k⟩ := h
  refine ⟨kvs, e, fun z => ?_⟩
  rw [k z]
  exact decide_eq_decide.mpr (m z)
theorem valV_drop (k j : Key) : ∀ kvs : List (Key × V), valV (dropK kvs k) j = if j = k then none else valV kvs j
  | [] => by
    split <;> rfl
  | p :: r => by
    have ih := valV_drop k j r
    by_cases e : p.1 = k
    · rw [dropK_pos e, ih]
      by_cases jk : j = k
      · rw [if_pos jk, if_pos jk]
      · rw [if_neg jk, if_neg jk, valV_neg (fun z => jk (z.symm.trans e))]
    · rw [dropK_neg e]
      by_cases pj : p.1 = j
      · have jk : ¬ j = k := fun z => e (pj.trans z)
        rw [valV_pos pj, if_neg jk, valV_pos pj]
      · rw [valV_neg pj, ih]
        by_cases jk : j = k
        · rw [if_pos jk, if_pos jk]
        · rw [if_neg jk, if_neg jk, valV_neg pj]
end My
/-! the greatest part of a lot whose things are all barred by it -/
namespace My
open PySem PySem.Spec PyProof.Rows L2
def Mono (b : List Str → Str → Bool) : Prop := ∀ (xs ys : List Str) (z : Str), (∀ x ∈ xs, x ∈ ys) → b xs z = true → b ys z = true
structure Great (b : List Str → Str → Bool) (ws ys : List Str) : Prop where
  sub : ys.Sublist ws
  bar : ∀ z ∈ ys, b ys z = true
  top : ∀ S : List Str, (∀ z ∈ S, z ∈ ws) → (∀ z ∈ S, b S z = true) → ∀ z ∈ S, z ∈ ys
theorem frees_nil {b : List Str → Str → Bool} {ws : List Str} : frees b ws = [] ↔ ∀ z ∈ ws, b ws z = true := by
  unfold frees
  rw [List.filter_eq_nil_iff]
  constructor
  · intro h z hz
    have q := h z hz
    cases e : b ws z with
    | true => rfl
    | false => rw [e] at q; exact absurd rfl q
  · intro h z hz
    rw [h z hz]
    decide
theorem lots_sublist {b : List Str → Str → Bool} {ws : List Str} : ∀ n : Nat, (lots b ws n).Sublist ws
  | 0 => List.Sublist.refl _
  | n + 1 => (List.filter_sublist).trans (lots_sublist n)
theorem lots_top {b : List Str → Str → Bool} (m : Mono b) {ws S : List Str} (hs : ∀ z ∈ S, z ∈ ws) (hb : ∀ z ∈ S, b S z = true) : ∀ n : Nat, ∀ z ∈ S, z ∈ lots b ws n
  | 0, z, h => hs z h
  | n + 1, z, h => by
    have ih := lots_top m hs hb n
    refine List.mem_filter.mpr ⟨ih z h, ?_⟩
    refine decide_eq_true fun q => ?_
    have q2 := (List.mem_filter.mp q).2
    rw [m S (lots b ws n) z ih (hb z h)] at q2
    exact absurd q2 (by decide)
theorem great_lots {b : List Str → Str → Bool} (m : Mono b) {ws : List Str} {n : Nat} (h : LastR b ws n) : Great b ws (lots b ws n) :=
  ⟨lots_sublist n, frees_nil.mp h.1, fun S hs hb => lots_top m hs hb n⟩
theorem sub_filter : ∀ {xs ws : List Str}, xs.Sublist ws → ws.Nodup → ws.filter (fun z => decide (z ∈ xs)) = xs
  | _, _, .slnil, _ => rfl
  | xs, a :: ws, .cons _ h, nd => by
    have nd' := List.nodup_cons.mp nd
    have na : a ∉ xs := fun q => nd'.1 (h.subset q)
    rw [List.filter_cons, if_neg (by simp [na])]
    exact sub_filter h nd'.2
  | a :: xs, _ :: ws, .cons₂ _ h, nd => by
    have nd' := List.nodup_cons.mp nd
    rw [List.filter_cons, if_pos (by simp)]
    refine congrArg (a :: ·) ?_
    rw [← sub_filter h nd'.2]
    refine List.filter_congr fun z hz => ?_
    have ne : z ≠ a := fun q => nd'.1 (q ▸ hz)
    simp [ne, sub_filter h nd'.2]
theorem sub_eq {xs ys ws : List Str} (hx : xs.Sublist ws) (hy : ys.Sublist ws) (nd : ws.Nodup) (h : ∀ z, z ∈ xs ↔ z ∈ ys) : xs = ys := by
  rw [← sub_filter hx nd, ← sub_filter hy nd]
  refine List.filter_congr fun z _ => ?_
  simp [h z]
theorem Great.uniq {b : List Str → Str → Bool} {ws xs ys : List Str} (hx : Great b ws xs) (hy : Great b ws ys) (nd : ws.Nodup) : xs = ys :=
  sub_eq hx.sub hy.sub nd fun z => ⟨fun h => hy.top xs (fun _ q => hx.sub.subset q) hx.bar z h, fun h => hx.top ys (fun _ q => hy.sub.subset q) hy.bar z h⟩
theorem Great.mono {b : List Str → Str → Bool} {hs ws xs ys : List Str} (hx : Great b hs xs) (hy : Great b ws ys) (s : ∀ z ∈ hs, z ∈ ws) : ∀ z ∈ xs, z ∈ ys :=
  hy.top xs (fun z q => s z (hx.sub.subset q)) hx.bar
/-- one taken out that is free -/
theorem take_out {b : List Str → Str → Bool} (m : Mono b) {ys : List Str} {z : Str} {S : List Str} {j : Nat} (hz : ys[j]? = some z) (first : ∀ m : Nat, m < j → ys[m]? ≠ some z) (fz : b ys z = false) (hs : ∀ x ∈ S, x ∈ ys) (hb : ∀ x ∈ S, b S x = true) : ∀ x ∈ S, x ∈ ys.eraseIdx j := fun x hx => by
  have ne : x ≠ z := fun q => by
    have := m S ys z hs (hb z (q ▸ hx))
    rw [fz] at this
    exact absurd this (by decide)
  obtain ⟨k, hk, e⟩ := List.getElem_of_mem (hs x hx)
  have kj : k ≠ j := fun q => by
    subst q
    rw [List.getElem?_eq_getElem hk, e] at hz
    exact ne (Option.some.inj hz)
  rw [List.mem_eraseIdx_iff_getElem?]
  exact ⟨k, kj, by rw [List.getElem?_eq_getElem hk, e]⟩
end My
/-! pools of unlike names, boards whose keepers are called unlike -/
namespace My
open PySem PySem.Spec PyProof.Rows L2
def spPoolN : Sp := fun vs H Q _ => ∃ (b l : Addr) (c : Int), vs = [.ref b, .int c] ∧ Bag H b l ∧ 0 ≤ c ∧ c ≤ 96 ∧
  ∀ (p : Addr) (ws : List Str) (H' : Hp), H p = none → p ≠ b → p ≠ l → (ws.length : Int) = c → W8 ws → ws.Nodup →
    H' p = some (.lst (ws.map V.str)) → Bag H' b l → Ext b l H H' → Q (.ref p) H'
/-- the place that a name of the pool tells -/
def dg (z : Str) (p : Nat) : Nat := z.cps.toList.getD p 0 - 97
def kap (st c : Int) (z : Str) : Nat := if st = 0 ∧ c < 27 then dg z 0 else if st = 1 then 26 * dg z 6 + dg z 7 else 26 * dg z 0 + dg z 1
theorem kap_nd {κ : Str → Nat} {ws : List Str} (h : ∀ j z, ws[j]? = some z → κ z = j) : ws.Nodup := by
  refine List.pairwise_iff_getElem.mpr fun i j hi hj lt e => ?_
  have a := h i _ (List.getElem?_eq_getElem hi)
  have b := h j _ (List.getElem?_eq_getElem hj)
  rw [e] at a
  omega
theorem kap_snoc {κ : Str → Nat} {ws : List Str} {x : Str} (h : ∀ j z, ws[j]? = some z → κ z = j) (hx : κ x = ws.length) : ∀ j z, (ws ++ [x])[j]? = some z → κ z = j := fun j z e => by
  by_cases lt : j < ws.length
  · rw [List.getElem?_append_left lt] at e
    exact h j z e
  · rw [List.getElem?_append_right (by omega)] at e
    have lt2 := (List.getElem?_eq_some_iff.mp e).1
    rw [List.length_singleton] at lt2
    have ej : j = ws.length := by omega
    subst ej
    rw [Nat.sub_self] at e
    cases e
    exact hx
theorem pick3i {a b c : V} {st : Int} (h0 : 0 ≤ st) (h1 : st < 3) (R : V → Prop) (ha : st = 0 → R a) (hb : st = 1 → R b) (hc : st = 2 → R c) : ∃ v, atI [a, b, c] st = some v ∧ R v := by
  obtain e | e | e : st = 0 ∨ st = 1 ∨ st = 2 := by omega
  · subst e
    exact ⟨a, rfl, ha rfl⟩
  · subst e
    exact ⟨b, rfl, hb rfl⟩
  · subst e
    exact ⟨c, rfl, hc rfl⟩
theorem dg_app {a b : Str} {p : Nat} (h : p < a.cps.toList.length) : dg (a ++ b) p = dg a p := by
  unfold dg
  have e : (a ++ b).cps.toList = a.cps.toList ++ b.cps.toList := by
    show (a.cps ++ b.cps).toList = _
    rw [Array.toList_append]
  rw [e, List.getD_eq_getElem?_getD, List.getD_eq_getElem?_getD, List.getElem?_append_left h]
theorem dg_app2 {a b : Str} {p : Nat} (h : a.cps.toList.length ≤ p) : dg (a ++ b) p = dg b (p - a.cps.toList.length) := by
  unfold dg
  have e : (a ++ b).cps.toList = a.cps.toList ++ b.cps.toList := by
    show (a.cps ++ b.cps).toList = _
    rw [Array.toList_append]
  rw [e, List.getD_eq_getElem?_getD, List.getD_eq_getElem?_getD, List.getElem?_append_right h]
theorem kap1 {a b : Nat} (st c : Int) (h : 97 ≤ b) (e : st = 0) (l : c < 27) : kap st c ⟨#[b]⟩ = b - 97 := by
  unfold kap
  rw [if_pos ⟨e, l⟩]
  rfl
theorem kap2 {a b : Nat} {st c : Int} {u : Str} (hn : ¬ (st = 0 ∧ c < 27)) (h1 : st ≠ 1) : kap st c ((⟨#[a]⟩ ++ ⟨#[b]⟩ : Str) ++ u) = 26 * (a - 97) + (b - 97) := by
  unfold kap
  rw [if_neg hn, if_neg h1, dg_app (a := (⟨#[a]⟩ ++ ⟨#[b]⟩ : Str)) (b := u) (p := 0) (by show 0 < 2; decide), dg_app (a := (⟨#[a]⟩ ++ ⟨#[b]⟩ : Str)) (b := u) (p := 1) (by show 1 < 2; decide)]
  rfl
theorem kap2' {a b : Nat} {st c : Int} (hn : ¬ (st = 0 ∧ c < 27)) (h1 : st ≠ 1) : kap st c (⟨#[a]⟩ ++ ⟨#[b]⟩ : Str) = 26 * (a - 97) + (b - 97) := by
  unfold kap
  rw [if_neg hn, if_neg h1]
  rfl
theorem kap3 {a b : Nat} {st c : Int} (h1 : st = 1) : kap st c (("mnopqr" : Str) ++ (⟨#[a]⟩ ++ ⟨#[b]⟩)) = 26 * (a - 97) + (b - 97) := by
  have l6 : ("mnopqr" : Str).cps.toList.length = 6 := by decide +kernel
  unfold kap
  rw [if_neg (by omega), if_pos h1, dg_app2 (a := "mnopqr") (p := 6) (by omega), dg_app2 (a := "mnopqr") (p := 7) (by omega), l6]
  rfl
/-! ### boards -/
structure BdN (bd : List Tm) : Prop where
  ok : BdOk bd
  nd : ((bd.flatMap (·.ks)).map (·.name)).Nodup
def spBoardN : Sp := fun vs H Q _ => ∃ (b l : Addr), vs = [.ref b] ∧ Bag H b l ∧
  ∀ (a : Addr) (bd : List Tm) (H' : Hp), BdN bd → BdAt (Nw H H') a bd → Bag H' b l → Ext b l H H' → Q (.ref a) H'
theorem pick_perm {α : Type} : ∀ (l : List α) (j : Nat) (h : j < l.length), (l[j] :: l.eraseIdx j).Perm l
  | [], _, h => absurd h (Nat.not_lt_zero _)
  | _ :: _, 0, _ => List.Perm.refl _
  | a :: r, j + 1, h => (List.Perm.swap _ _ _).trans ((pick_perm r j (Nat.lt_of_succ_lt_succ h)).cons a)
theorem nd_pick {ns cs : List Str} {j : Nat} (h : (ns ++ cs).Nodup) (lt : j < cs.length) : ((ns ++ [cs[j]]) ++ cs.eraseIdx j).Nodup := by
  have p : (cs[j] :: cs.eraseIdx j).Perm cs := pick_perm cs j lt
  rw [List.append_assoc, List.singleton_append]
  exact (List.Perm.append_left ns p).nodup_iff.mpr h
theorem cut_nd {α : Type} {f : α → V} {xs : List α} {k : Nat} (h : xs.Nodup) : ∃ ys : List α, cutV (xs.map f) none (some (k : Int)) = ys.map f ∧ ys.length = min k xs.length ∧ (∀ y ∈ ys, y ∈ xs) ∧ ys.Nodup := by
  refine ⟨xs.take k, ?_, List.length_take, fun y hy => List.mem_of_mem_take hy, List.Sublist.nodup (List.take_sublist _ _) h⟩
  unfold cutV
  rw [HT.sIx_none, HT.sIx_nat, List.drop_zero, List.map_take, List.length_map]
  show (xs.map f).take (min k xs.length - 0) = _
  rw [Nat.sub_zero, ← List.length_map (f := f), List.take_eq_take_iff]
  omega
end My
/-! name = {k: v for ..} on one line, the name a local -/
namespace My
open PySem PySem.Spec PyProof.Rows L2
section
variable {X : Cx}
theorem ps_setDc {i : Nat} {y : Str} {py : Pos} {kx vx tg iter : Expr} {ifs : List Expr} {scope : Scope} {own : List (Str × Nat)} {pos spos : Pos} {wi : TI} {g : TG} {tt : TT} {tk tv : TE} (hc : X.calm = true) (hN : X.N.Nodup) (hy : X.N[i]? = some y) (hyl : X.env.scope.names.lookup y = some .local)
    (hsw : swapsWith (.DictComp kx vx [⟨tg, iter, ifs, 0⟩] scope pos) (some (.Name y py)) spos.line X.env = pure true) (hi : PI X tg iter wi) (ok : BlkOk X.N X.env.scope scope own)
    (hg : ∀ (s : Shared) (H : Hp) (C : Addr) (cl : List (Str × Addr)) (fp : List Addr), PG (X.blk s H scope (compEnvC scope cl C X.env) fp) tg g) (ht : ∀ (s : Shared) (H : Hp) (C : Addr) (cl : List (Str × Addr)) (fp : List Addr), PTs (X.blk s H scope (compEnvC scope cl C X.env) fp) ifs tt)
    (hk : ∀ (s : Shared) (H : Hp) (C : Addr) (cl : List (Str × Addr)) (fp : List Addr), PE (X.blk s H scope (compEnvC scope cl C X.env) fp) kx tk)
    (he : ∀ (s : Shared) (H : Hp) (C : Addr) (cl : List (Str × Addr)) (fp : List Addr), PE (X.blk s H scope (compEnvC scope cl C X.env) fp) vx tv) (hs : ∀ x, foldedSetIterable iter X.env x = pure x := by intro _; rfl) :
    PS X (.Assign [.Name y py] (.DictComp kx vx [⟨tg, iter, ifs, 0⟩] scope pos) spos) (tAsg (tDc wi g tt tk tv (own.map (·.2))) (gName i)) := by
  refine ⟨fun pins s σ H D I h => ?_⟩
  rw [exec_Assign_Name_used _ _ _ _ hsw]
  refine wpAny_bind (wpAny_standAt (wpAny_bind ?_))
  show wpAny _ X.A (do let _ ← comprehension (.DictComp kx vx [⟨tg, iter, ifs, 0⟩] scope pos) scope X.env (firstIterPos [⟨tg, iter, ifs, 0⟩] pos) newDict false (eval iter X.env) (some (assign (.Name y py) X.env))) _ _ s
  have h : tDc wi g tt tk tv (own.map (·.2)) σ H (fun x H1 => gName i x σ H1 D.nx) := h
  refine wpAny_bind (thn (dc_core (Qf := fun _ s' => SP X pins D .next s') hc hN I hi ok hg ht hk he hs h fun L C s' m H' I' q hn f => ?_) fun _ s' hq => wpAny_pure (wpAny_pure hq))
  show wpAny _ _ (assign (.Name y py) X.env (.ref L)) _ _ _
  refine wpAny_assign_Name (store_ok2 (v := V.ref L) I' hN hy (.inl hyl) rfl (fun s2 I2 ⟨a, sb, ha⟩ => ?_) (.inr hyl))
  obtain ⟨f0, f1, f2, f3, f4, f5⟩ := f
  have haC : C ≠ a := by
    rcases ha with z | z
    · rw [z]; exact f1
    · exact fun e => f4 y a z e.symm
  refine ⟨m, hn.sameBut sb haC, fun h3 sb3 => ?_⟩
  exact ⟨_, H', I2.turned (t' := s2.toks) (fun b o hb e => (sb3.2 b hb).trans e) f0 f1 f3 f4 f5, q⟩
theorem sw_trueD {kx vx : Expr} {gs : List Comprehension} {scope : Scope} {pos py : Pos} {y : Str} {l : Nat} {env : Env} (hk : env.scope.kind = .function) (hy : env.scope.names.lookup y = some .local) (hl : (py.line == pos.line) = true)
    (ha : (scope.names.any fun (n, k) => n == y && (k == .local || k == .cell)) = false) : swapsWith (.DictComp kx vx gs scope pos) (some (.Name y py)) l env = pure true := by
  have ky : env.kindOf y = some .local := hy
  have hb : env.blockKind = .function := by unfold Env.blockKind; rw [hk]; rfl
  unfold swapsWith
  simp only [hb, ky, ha, Expr.pos, hl]
  rfl
end
end My
/-! xs.remove(z), texts -/
namespace My
open PySem PySem.Spec PyProof.Rows L2
def eqs (k : Str) (v : Value) : Bool := match v with
  | .str n _ => n.cps.toList == k.cps.toList
  | _ => false
theorem eqs_gives {k : Str} {t : Tok} : ∀ {us : List Value} {ns : List Str}, StrsAre us ns → ∀ y ∈ us, MeetsSeq.EqGives y (.str k t) (eqs k y)
  | _, _, .nil => fun y hy => by cases hy
  | _, _, .cons n t' h => fun y hy => by
    rcases List.mem_cons.mp hy with e | e
    · rw [e]
      exact PySem.SeqRoads2.EqGives.str n k t' t
    · exact eqs_gives h y e
theorem strs_get : ∀ {us : List Value} {ns : List Str}, StrsAre us ns → ∀ (j : Nat) (k : Str), ns[j]? = some k → ∃ t, us[j]? = some (.str k t)
  | _, _, .nil, j, k, h => by simp at h
  | _, _, .cons n t' h, 0, k, e => ⟨t', by rw [← Option.some.inj (show some n = some k from e)]; rfl⟩
  | _, _, .cons n t' h, j + 1, k, e => strs_get h j k e
theorem erase_mapS : ∀ (l : List Str) (j : Nat), (l.map V.str).eraseIdx j = (l.eraseIdx j).map V.str
  | [], j => by simp
  | a :: r, 0 => by simp
  | a :: r, j + 1 => by
    have ih := erase_mapS r j
    simp [ih]
section
variable {X : Cx}
def rRemS : V → List V → Hp → VK → Prop := fun x xs H Q => ∃ (l : Addr) (ns : List Str) (k : Str) (j : Nat), x = .ref l ∧ xs = [.str k] ∧ H l = some (.lst (ns.map V.str)) ∧ ns[j]? = some k ∧ (∀ m : Nat, m < j → ns[m]? ≠ some k) ∧ Q .non (upd H l (.lst ((ns.eraseIdx j).map V.str)))
theorem mt_removeS : MtM X "list.remove" rRemS := by
  intro pins s σ H x xs v us Q I rx rxs h
  obtain ⟨l, ns, k, j, rfl, rfl, hH, hj, hno, q⟩ := h
  cases rx
  obtain ⟨u, rfl, ru⟩ := rxs.one
  obtain ⟨t, rfl⟩ := ru
  obtain ⟨z, its, n, r, hl, e⟩ := I.lstM hH
  have hi := Vals.strs r
  rw [List.length_map] at hl z
  have hjn : j < ns.length := (List.getElem?_eq_some_iff.mp hj).1
  have hjl : j < its.toArray.size := by rw [List.size_toArray]; omega
  refine call_meets PySem.F.slot_list_remove ⟨_, e, rfl⟩ PySem.F.entry_list_remove (PySem.F.args_list_remove_2 _ _)
    (MeetsSeq.list_remove l its.toArray n (.str k t) (eqs k) (fun y hy => eqs_gives hi y (by simpa using hy)) j hjl ?_ ?_ (by rw [List.size_toArray]; omega)) ⟨e, ?_⟩
  · obtain ⟨tj, hjt⟩ := strs_get hi j k hj
    obtain ⟨h1, h2⟩ := List.getElem?_eq_some_iff.mp hjt
    have e1 : its.toArray[j] = .str k tj := by simpa using h2
    rw [e1]
    exact beq_self_eq_true _
  · intro m hm hmj
    have hmn : m < ns.length := by omega
    obtain ⟨tm, hmt⟩ := strs_get hi m _ (List.getElem?_eq_getElem hmn)
    obtain ⟨h1, h2⟩ := List.getElem?_eq_some_iff.mp hmt
    have e1 : its.toArray[m] = .str ns[m] tm := by simpa using h2
    rw [e1]
    refine beq_eq_false_iff_ne.mpr fun e2 => hno m hmj ?_
    rw [List.getElem?_eq_getElem hmn]
    refine congrArg some ?_
    have e3 : (ns[m]).cps = k.cps := Array.toList_inj.mp e2
    cases h : ns[m]
    cases k
    rw [h] at e3
    congr
  · have rr := r.eraseIdx j
    rw [erase_mapS] at rr
    refine ⟨.non, _, I.lset (its' := its.eraseIdx j) (t' := s.toks) hH e ?_ rr ?_, rfl, q⟩
    · show its.toArray.eraseIdxIfInBounds j = (its.eraseIdx j).toArray
      rw [List.eraseIdxIfInBounds_toArray]
    · have z2 := List.length_eraseIdx_le ns j
      rw [List.length_map]
      omega
end
end My
/-! xs > ys, xs < ys of lists of alike data -/
namespace My
open PySem PySem.W PySem.Spec PyProof.Rows L2
section
variable {X : Cx} {K : PySem.W.Frag}
/-- never reached -/
theorem ps_dead {st : Stmt} : PS X st (fun _ _ _ => False) := ⟨fun _ _ _ _ _ _ h => h.elim⟩
def rGtD (K : PySem.W.Frag) : R2 := fun x y H Q => ∃ d e, Dp K H x d ∧ Dp K H y e ∧ alike d e = true ∧ d ≠ .none ∧ min d.depth e.depth ≤ 64 ∧ Q (.bl (dataLt e d)) H
def rLtD (K : PySem.W.Frag) : R2 := fun x y H Q => ∃ d e, Dp K H x d ∧ Dp K H y e ∧ alike d e = true ∧ d ≠ .none ∧ min d.depth e.depth ≤ 64 ∧ Q (.bl (dataLt d e)) H
theorem gtDK (k : X.K = K) (hu : X.A.units + 64 < cLine) : OpR X (compareOp .Gt) (rGtD K) := by
  subst k
  intro pins s σ H x y v u Q I rx ry h
  obtain ⟨d, e, hd, he, al, nn, dp, q⟩ := h
  obtain ⟨as, r1⟩ := Dp.reads I d x v hd rx
  obtain ⟨bs, r2⟩ := Dp.reads I e y u he ry
  exact gt_data r1 r2 al nn (by omega) ⟨.bl _, H, I, rfl, q⟩
theorem ltDK (k : X.K = K) (hu : X.A.units + 64 < cLine) : OpR X (compareOp .Lt) (rLtD K) := by
  subst k
  intro pins s σ H x y v u Q I rx ry h
  obtain ⟨d, e, hd, he, al, nn, dp, q⟩ := h
  obtain ⟨as, r1⟩ := Dp.reads I d x v hd rx
  obtain ⟨bs, r2⟩ := Dp.reads I e y u he ry
  exact lt_data r1 r2 al nn (by omega) ⟨.bl _, H, I, rfl, q⟩
end
end My
/-! the text by places -/
namespace My
open PySem PySem.Spec PyProof.Rows L2
open GxR (TabB TabG Tabbed)
def top (i : Nat) : Stmt := PySem.Challenge.pw_dimkeepers_k26_whole_each_beginning_goes.main.body.getD i (.Pass ⟨0, 0, 0, 0⟩)
abbrev s_bar_of : Stmt := top 1
abbrev N_bar_of : List Str := ["board", "thing", "uncounted", "behind", "teams", "least", "keepers", "sure", "unsure", "name", "_", "whole", "row"]
abbrev P_bar_of : List Str := ["board", "thing", "uncounted"]
theorem sc_bar_of : FnScope N_bar_of P_bar_of (defScope s_bar_of) := ⟨rfl, rfl, rfl, by decide +kernel, rfl, by decide +kernel, by decide +kernel⟩
abbrev s_bars_of : Stmt := top 2
abbrev N_bars_of : List Str := ["board", "lot", "thing"]
abbrev P_bars_of : List Str := ["board", "lot"]
theorem sc_bars_of : FnScope N_bars_of P_bars_of (defScope s_bars_of) := ⟨rfl, rfl, rfl, by decide +kernel, rfl, by decide +kernel, by decide +kernel⟩
abbrev s_hearers : Stmt := top 3
abbrev N_hearers : List Str := ["bar", "lot", "least", "sure", "unsure", "name", "eldest"]
abbrev P_hearers : List Str := ["bar", "lot"]
theorem sc_hearers : FnScope N_hearers P_hearers (defScope s_hearers) := ⟨rfl, rfl, rfl, by decide +kernel, rfl, by decide +kernel, by decide +kernel⟩
abbrev s_is_barred : Stmt := top 4
abbrev N_is_barred : List Str := ["bar", "lot", "other", "least", "told"]
abbrev P_is_barred : List Str := ["bar", "lot"]
theorem sc_is_barred : FnScope N_is_barred P_is_barred (defScope s_is_barred) := ⟨rfl, rfl, rfl, by decide +kernel, rfl, by decide +kernel, by decide +kernel⟩
abbrev s_free_of : Stmt := top 5
abbrev N_free_of : List Str := ["bars", "lot", "held", "beside", "thing"]
abbrev P_free_of : List Str := ["bars", "lot", "held"]
theorem sc_free_of : FnScope N_free_of P_free_of (defScope s_free_of) := ⟨rfl, rfl, rfl, by decide +kernel, rfl, by decide +kernel, by decide +kernel⟩
abbrev s_left_of : Stmt := top 6
abbrev N_left_of : List Str := ["bars", "lot", "held", "thing", "beside", "left", "count", "kept"]
abbrev P_left_of : List Str := ["bars", "lot", "held"]
theorem sc_left_of : FnScope N_left_of P_left_of (defScope s_left_of) := ⟨rfl, rfl, rfl, by decide +kernel, rfl, by decide +kernel, by decide +kernel⟩
abbrev s_keepers_of : Stmt := top 10
abbrev N_keepers_of : List Str := ["board", "team", "keeper"]
abbrev P_keepers_of : List Str := ["board"]
theorem sc_keepers_of : FnScope N_keepers_of P_keepers_of (defScope s_keepers_of) := ⟨rfl, rfl, rfl, by decide +kernel, rfl, by decide +kernel, by decide +kernel⟩
abbrev s_p_things : Stmt := top 11
abbrev N_p_things : List Str := ["board", "keeper", "thing"]
abbrev P_p_things : List Str := ["board"]
theorem sc_p_things : FnScope N_p_things P_p_things (defScope s_p_things) := ⟨rfl, rfl, rfl, by decide +kernel, rfl, by decide +kernel, by decide +kernel⟩
abbrev s_barred : Stmt := top 13
abbrev N_barred : List Str := ["board", "lot", "thing"]
abbrev P_barred : List Str := ["board", "lot", "thing"]
theorem sc_barred : FnScope N_barred P_barred (defScope s_barred) := ⟨rfl, rfl, rfl, by decide +kernel, rfl, by decide +kernel, by decide +kernel⟩
abbrev s_stuck : Stmt := top 14
abbrev N_stuck : List Str := ["board", "found"]
abbrev P_stuck : List Str := ["board"]
theorem sc_stuck : FnScope N_stuck P_stuck (defScope s_stuck) := ⟨rfl, rfl, rfl, by decide +kernel, rfl, by decide +kernel, by decide +kernel⟩
abbrev s_need_order : Stmt := top 16
abbrev N_need_order : List Str := ["board", "lot"]
abbrev P_need_order : List Str := ["board"]
theorem sc_need_order : FnScope N_need_order P_need_order (defScope s_need_order) := ⟨rfl, rfl, rfl, by decide +kernel, rfl, by decide +kernel, by decide +kernel⟩
abbrev s_can_have : Stmt := top 17
abbrev N_can_have : List Str := ["board", "order", "lot", "thing"]
abbrev P_can_have : List Str := ["board", "order"]
theorem sc_can_have : FnScope N_can_have P_can_have (defScope s_can_have) := ⟨rfl, rfl, rfl, by decide +kernel, rfl, by decide +kernel, by decide +kernel⟩
abbrev s_newest_first : Stmt := top 18
abbrev N_newest_first : List Str := ["bars", "lot", "told", "left", "thing"]
abbrev P_newest_first : List Str := ["bars", "lot"]
theorem sc_newest_first : FnScope N_newest_first P_newest_first (defScope s_newest_first) := ⟨rfl, rfl, rfl, by decide +kernel, rfl, by decide +kernel, by decide +kernel⟩
abbrev s_order_of : Stmt := top 19
abbrev N_order_of : List Str := ["board", "found"]
abbrev P_order_of : List Str := ["board"]
theorem sc_order_of : FnScope N_order_of P_order_of (defScope s_order_of) := ⟨rfl, rfl, rfl, by decide +kernel, rfl, by decide +kernel, by decide +kernel⟩
abbrev s_jug : Stmt := top 21
abbrev N_jug : List Str := ["script", "k", "cell"]
abbrev P_jug : List Str := ["script", "k"]
theorem sc_jug : FnScope N_jug P_jug (defScope s_jug) := ⟨rfl, rfl, rfl, by decide +kernel, rfl, by decide +kernel, by decide +kernel⟩
abbrev s_dip : Stmt := top 22
abbrev N_dip : List Str := ["jug", "size", "found", "mixed"]
abbrev P_dip : List Str := ["jug", "size"]
theorem sc_dip : FnScope N_dip P_dip (defScope s_dip) := ⟨rfl, rfl, rfl, by decide +kernel, rfl, by decide +kernel, by decide +kernel⟩
abbrev s_words : Stmt := top 23
abbrev N_words : List Str := ["jug", "size", "letters", "some", "k", "one"]
abbrev P_words : List Str := ["jug", "size"]
theorem sc_words : FnScope N_words P_words (defScope s_words) := ⟨rfl, rfl, rfl, by decide +kernel, rfl, by decide +kernel, by decide +kernel⟩
abbrev s_picked : Stmt := top 24
abbrev N_picked : List Str := ["jug", "some", "size", "left", "k"]
abbrev P_picked : List Str := ["jug", "some", "size"]
theorem sc_picked : FnScope N_picked P_picked (defScope s_picked) := ⟨rfl, rfl, rfl, by decide +kernel, rfl, by decide +kernel, by decide +kernel⟩
abbrev s_teams : Stmt := top 25
abbrev N_teams : List Str := ["jug", "most", "widest", "named", "crews", "name", "found", "crew", "most_least", "k"]
abbrev P_teams : List Str := ["jug", "most", "widest"]
theorem sc_teams : FnScope N_teams P_teams (defScope s_teams) := ⟨rfl, rfl, rfl, by decide +kernel, rfl, by decide +kernel, by decide +kernel⟩
abbrev s_frozen : Stmt := top 26
abbrev N_frozen : List Str := ["jug", "crews", "found", "least", "crew", "keepers", "name", "room", "whole", "row", "is_whole"]
abbrev P_frozen : List Str := ["jug", "crews"]
theorem sc_frozen : FnScope N_frozen P_frozen (defScope s_frozen) := ⟨rfl, rfl, rfl, by decide +kernel, rfl, by decide +kernel, by decide +kernel⟩
abbrev s_lived : Stmt := top 27
abbrev N_lived : List Str := ["jug", "most", "widest", "long", "crews", "past", "word", "said", "least", "crew", "size", "keeper"]
abbrev P_lived : List Str := ["jug", "most", "widest", "long"]
theorem sc_lived : FnScope N_lived P_lived (defScope s_lived) := ⟨rfl, rfl, rfl, by decide +kernel, rfl, by decide +kernel, by decide +kernel⟩
abbrev s_things : Stmt := top 28
abbrev N_things : List Str := ["hall", "found", "least", "keepers", "name", "room", "whole", "row"]
abbrev P_things : List Str := ["hall"]
theorem sc_things : FnScope N_things P_things (defScope s_things) := ⟨rfl, rfl, rfl, by decide +kernel, rfl, by decide +kernel, by decide +kernel⟩
abbrev s_chosen : Stmt := top 29
abbrev N_chosen : List Str := ["jug", "hall", "newest_part", "found", "rest", "free", "bead"]
abbrev P_chosen : List Str := ["jug", "hall", "newest_part"]
theorem sc_chosen : FnScope N_chosen P_chosen (defScope s_chosen) := ⟨rfl, rfl, rfl, by decide +kernel, rfl, by decide +kernel, by decide +kernel⟩
abbrev s_right : Stmt := top 30
abbrev N_right : List Str := ["jug", "hall", "first", "cut", "other", "mate", "mixed", "least_one", "at", "bead"]
abbrev P_right : List Str := ["jug", "hall"]
theorem sc_right : FnScope N_right P_right (defScope s_right) := ⟨rfl, rfl, rfl, by decide +kernel, rfl, by decide +kernel, by decide +kernel⟩
abbrev s_law : Stmt := top 31
abbrev N_law : List Str := ["script", "k", "jug", "most", "widest", "long", "hall", "turn"]
abbrev P_law : List Str := ["script"]
theorem sc_law : FnScope N_law P_law (defScope s_law) := ⟨rfl, rfl, rfl, by decide +kernel, rfl, by decide +kernel, by decide +kernel⟩
structure Ad where
  f_bar_of : Addr
  d_bar_of : FuncData
  f_bars_of : Addr
  d_bars_of : FuncData
  f_hearers : Addr
  d_hearers : FuncData
  f_is_barred : Addr
  d_is_barred : FuncData
  f_free_of : Addr
  d_free_of : FuncData
  f_left_of : Addr
  d_left_of : FuncData
  f_keepers_of : Addr
  d_keepers_of : FuncData
  f_p_things : Addr
  d_p_things : FuncData
  f_barred : Addr
  d_barred : FuncData
  f_stuck : Addr
  d_stuck : FuncData
  f_need_order : Addr
  d_need_order : FuncData
  f_can_have : Addr
  d_can_have : FuncData
  f_newest_first : Addr
  d_newest_first : FuncData
  f_order_of : Addr
  d_order_of : FuncData
  f_jug : Addr
  d_jug : FuncData
  f_dip : Addr
  d_dip : FuncData
  f_words : Addr
  d_words : FuncData
  f_picked : Addr
  d_picked : FuncData
  f_teams : Addr
  d_teams : FuncData
  f_frozen : Addr
  d_frozen : FuncData
  f_lived : Addr
  d_lived : FuncData
  f_things : Addr
  d_things : FuncData
  f_chosen : Addr
  d_chosen : FuncData
  f_right : Addr
  d_right : FuncData
structure Txt (K : PySem.W.Frag) (mg : Str → Option Value) (A : Ad) : Prop where
  F_bar_of : FunD K "bar_of" "bar_of" (defArgs s_bar_of) (defBody s_bar_of) (defScope s_bar_of) [.str ""] [] A.f_bar_of A.d_bar_of
  g_bar_of : mg "bar_of" = some (.ref A.f_bar_of)
  F_bars_of : Fun K "bars_of" "bars_of" s_bars_of A.f_bars_of A.d_bars_of
  g_bars_of : mg "bars_of" = some (.ref A.f_bars_of)
  b_bars_of : Binds K A.d_bars_of P_bars_of []
  F_hearers : Fun K "hearers" "hearers" s_hearers A.f_hearers A.d_hearers
  g_hearers : mg "hearers" = some (.ref A.f_hearers)
  b_hearers : Binds K A.d_hearers P_hearers []
  F_is_barred : Fun K "is_barred" "is_barred" s_is_barred A.f_is_barred A.d_is_barred
  g_is_barred : mg "is_barred" = some (.ref A.f_is_barred)
  b_is_barred : Binds K A.d_is_barred P_is_barred []
  F_free_of : Fun K "free_of" "free_of" s_free_of A.f_free_of A.d_free_of
  g_free_of : mg "free_of" = some (.ref A.f_free_of)
  b_free_of : Binds K A.d_free_of P_free_of []
  F_left_of : Fun K "left_of" "left_of" s_left_of A.f_left_of A.d_left_of
  g_left_of : mg "left_of" = some (.ref A.f_left_of)
  b_left_of : Binds K A.d_left_of P_left_of []
  F_keepers_of : Fun K "keepers_of" "keepers_of" s_keepers_of A.f_keepers_of A.d_keepers_of
  g_keepers_of : mg "keepers_of" = some (.ref A.f_keepers_of)
  b_keepers_of : Binds K A.d_keepers_of P_keepers_of []
  F_p_things : Fun K "things" "things" s_p_things A.f_p_things A.d_p_things
  g_p_things : mg "things" = some (.ref A.f_p_things)
  b_p_things : Binds K A.d_p_things P_p_things []
  F_barred : Fun K "barred" "barred" s_barred A.f_barred A.d_barred
  g_barred : mg "barred" = some (.ref A.f_barred)
  b_barred : Binds K A.d_barred P_barred []
  F_stuck : Fun K "stuck" "stuck" s_stuck A.f_stuck A.d_stuck
  g_stuck : mg "stuck" = some (.ref A.f_stuck)
  b_stuck : Binds K A.d_stuck P_stuck []
  F_need_order : Fun K "need_order" "need_order" s_need_order A.f_need_order A.d_need_order
  g_need_order : mg "need_order" = some (.ref A.f_need_order)
  b_need_order : Binds K A.d_need_order P_need_order []
  F_can_have : Fun K "can_have" "can_have" s_can_have A.f_can_have A.d_can_have
  g_can_have : mg "can_have" = some (.ref A.f_can_have)
  b_can_have : Binds K A.d_can_have P_can_have []
  F_newest_first : Fun K "newest_first" "newest_first" s_newest_first A.f_newest_first A.d_newest_first
  g_newest_first : mg "newest_first" = some (.ref A.f_newest_first)
  b_newest_first : Binds K A.d_newest_first P_newest_first []
  F_order_of : Fun K "order_of" "order_of" s_order_of A.f_order_of A.d_order_of
  g_order_of : mg "order_of" = some (.ref A.f_order_of)
  b_order_of : Binds K A.d_order_of P_order_of []
  F_jug : Fun K "_law_jug" "_law_jug" s_jug A.f_jug A.d_jug
  g_jug : mg "_law_jug" = some (.ref A.f_jug)
  b_jug : Binds K A.d_jug P_jug []
  F_dip : Fun K "_law_dip" "_law_dip" s_dip A.f_dip A.d_dip
  g_dip : mg "_law_dip" = some (.ref A.f_dip)
  b_dip : Binds K A.d_dip P_dip []
  F_words : Fun K "_law_words" "_law_words" s_words A.f_words A.d_words
  g_words : mg "_law_words" = some (.ref A.f_words)
  b_words : Binds K A.d_words P_words []
  F_picked : Fun K "_law_picked" "_law_picked" s_picked A.f_picked A.d_picked
  g_picked : mg "_law_picked" = some (.ref A.f_picked)
  b_picked : Binds K A.d_picked P_picked []
  F_teams : Fun K "_law_teams" "_law_teams" s_teams A.f_teams A.d_teams
  g_teams : mg "_law_teams" = some (.ref A.f_teams)
  b_teams : Binds K A.d_teams P_teams []
  F_frozen : Fun K "_law_frozen" "_law_frozen" s_frozen A.f_frozen A.d_frozen
  g_frozen : mg "_law_frozen" = some (.ref A.f_frozen)
  b_frozen : Binds K A.d_frozen P_frozen []
  F_lived : Fun K "_law_lived" "_law_lived" s_lived A.f_lived A.d_lived
  g_lived : mg "_law_lived" = some (.ref A.f_lived)
  b_lived : Binds K A.d_lived P_lived []
  F_things : Fun K "_law_things" "_law_things" s_things A.f_things A.d_things
  g_things : mg "_law_things" = some (.ref A.f_things)
  b_things : Binds K A.d_things P_things []
  F_chosen : Fun K "_law_chosen" "_law_chosen" s_chosen A.f_chosen A.d_chosen
  g_chosen : mg "_law_chosen" = some (.ref A.f_chosen)
  b_chosen : Binds K A.d_chosen P_chosen []
  F_right : Fun K "_law_right" "_law_right" s_right A.f_right A.d_right
  g_right : mg "_law_right" = some (.ref A.f_right)
  b_right : Binds K A.d_right P_right []
  n_any : mg "any" = none
  n_len : mg "len" = none
  n_list : mg "list" = none
  n_max : mg "max" = none
  n_min : mg "min" = none
  n_range : mg "range" = none
  n_set : mg "set" = none
  n_sorted : mg "sorted" = none
/-- the code objects of the defs that hold generator expressions, and their tables -/
structure Cd where
  kb : Addr
  pb : Addr
abbrev Cd.tabs (C : Cd) : List Addr := [C.pb]
structure TBs (base : Heap) (mg : Str → Option Value) (C : Cd) (A : Ad) : Prop where
  is_barred : TabB base mg C.kb C.pb
  c_is_barred : A.d_is_barred.code = .ref C.kb
end My
namespace My
open PySem PySem.Spec PyProof.Rows L2
open GxR (TabB TabG Tabbed)
theorem flat_strs (ws : List Str) : (ws.map V.str).all flatV = true := by
  rw [List.all_eq_true]
  intro x hx
  obtain ⟨z, _, rfl⟩ := List.mem_map.mp hx
  rfl
theorem inV_strs (z : Str) (ws : List Str) : inV (.str z) (ws.map V.str) = decide (z ∈ ws) := by
  induction ws with
  | nil => rfl
  | cons a r ih =>
    unfold inV at ih ⊢
    rw [List.map_cons, List.any_cons, ih]
    show (a == z || decide (z ∈ r)) = decide (z ∈ a :: r)
    by_cases h : z = a
    · subst h
      rw [beq_self_eq_true, decide_eq_true List.mem_cons_self]
      rfl
    · have e : (a == z) = false := beq_eq_false_iff_ne.mpr fun q => h q.symm
      rw [e, Bool.false_or]
      by_cases m : z ∈ r
      · rw [decide_eq_true m, decide_eq_true (List.mem_cons_of_mem _ m)]
      · rw [decide_eq_false m, decide_eq_false fun q => (List.mem_cons.mp q).elim h m]
/-- something of the lot stands behind z in the row -/
def behB (lot : List Str) (z : Str) : List Str → Bool
  | [] => false
  | x :: r => if x = z then r.any fun y => decide (y ∈ lot) else behB lot z r
theorem behB_not {lot : List Str} {z : Str} : ∀ {row : List Str}, z ∉ row → behB lot z row = false
  | [], _ => rfl
  | x :: r, h => by
    have ne : ¬ x = z := fun e => h (by rw [e]; exact List.mem_cons_self)
    show (if x = z then _ else _) = _
    rw [if_neg ne]
    exact behB_not fun m => h (List.mem_cons_of_mem _ m)
theorem behB_at {lot : List Str} {z : Str} : ∀ {row : List Str} {j : Nat}, row[j]? = some z → (∀ m : Nat, m < j → row[m]? ≠ some z) → behB lot z row = (row.drop (j + 1)).any fun y => decide (y ∈ lot)
  | [], _, h, _ => by simp at h
  | x :: r, 0, h, _ => by
    have e : x = z := Option.some.inj h
    show (if x = z then _ else _) = _
    rw [if_pos e]
    rfl
  | x :: r, j + 1, h, n => by
    have ne : ¬ x = z := fun e => n 0 (Nat.succ_pos _) (congrArg some e)
    show (if x = z then _ else _) = _
    rw [if_neg ne]
    exact behB_at (row := r) (j := j) h fun m lt => n (m + 1) (Nat.succ_lt_succ lt)
theorem first_at {z : Str} : ∀ {row : List Str}, z ∈ row → ∃ j : Nat, row[j]? = some z ∧ ∀ m : Nat, m < j → row[m]? ≠ some z
  | x :: r, h => by
    by_cases e : x = z
    · exact ⟨0, congrArg some e, fun m lt => absurd lt (Nat.not_lt_zero m)⟩
    · obtain ⟨j, h1, h2⟩ := first_at ((List.mem_cons.mp h).resolve_left fun y => e y.symm)
      refine ⟨j + 1, h1, fun m lt => ?_⟩
      cases m with
      | zero => exact fun y => e (Option.some.inj y)
      | succ m => exact h2 m (Nat.lt_of_succ_lt_succ lt)
theorem cut_from {α : Type} {f : α → V} {xs : List α} {k : Nat} : cutV (xs.map f) (some (k : Int)) none = (xs.drop k).map f := by
  unfold cutV
  rw [HT.sIx_none, HT.sIx_nat, List.map_drop]
  have e : (xs.map f).length = xs.length := List.length_map _
  rw [e]
  by_cases l : k ≤ xs.length
  · rw [Nat.min_eq_left l]
    exact List.take_of_length_le (by rw [List.length_drop, e]; exact Nat.le_refl _)
  · rw [Nat.min_eq_right (by omega), List.drop_of_length_le (by rw [e]; exact Nat.le_refl _), List.drop_of_length_le (by rw [e]; omega)]
    simp
def mayB (k : Kp) (lot : List Str) (z : Str) : Bool := decide (z ∈ k.row) || (!k.whole && match k.row with
  | [] => false
  | x :: _ => decide (x ∉ lot))
theorem Gr.over {ps : List Addr} {H H' : Hp} {q : Addr} {o u : HO} (g : Gr ps H H') (h : H q = none) (h2 : H' q = some u) (nt : ∀ xs, u ≠ .tbl xs) : Gr ps H (upd H' q o) := by
  refine ⟨fun p hp => ?_, fun c v n e => ?_⟩
  · obtain ⟨xs, y, r⟩ := g.tb p hp
    have ne : p ≠ q := fun z => by
      rw [z, h2] at y
      exact nt xs (Option.some.inj y)
    exact ⟨xs, by rw [upd_ne ne]; exact y, r⟩
  · rw [upd_ne (ne_of_none e h)]
    exact g.keep c v n e
theorem KpAt.std {H H' : Hp} (s : Std H H') {a : Addr} {k : Kp} (h : KpAt H a k) : KpAt H' a k := by
  obtain ⟨r, h1, h2⟩ := h
  exact ⟨r, s _ _ h1 (fun ps z => by cases z), s _ _ h2 (fun ps z => by cases z)⟩
theorem TmAt.std {H H' : Hp} (s : Std H H') {a : Addr} {t : Tm} (h : TmAt H a t) : TmAt H' a t := by
  obtain ⟨c, as, h1, h2, h3⟩ := h
  exact ⟨c, as, s _ _ h1 (fun ps z => by cases z), s _ _ h2 (fun ps z => by cases z), L2.Paired.mapP h3 fun _ _ q => q.std s⟩
theorem BdAt.std {H H' : Hp} (s : Std H H') {a : Addr} {bd : List Tm} (h : BdAt H a bd) : BdAt H' a bd := by
  obtain ⟨as, h1, h2⟩ := h
  exact ⟨as, s _ _ h1 (fun ps z => by cases z), L2.Paired.mapP h2 fun _ _ q => q.std s⟩
theorem item_ref {as : List Addr} {i : Nat} {y : V} (h : (as.map V.ref)[i]? = some y) : ∃ x, as[i]? = some x ∧ y = V.ref x := by
  rw [List.getElem?_map] at h
  cases e : as[i]? with
  | none =>
    rw [e] at h
    cases h
  | some x =>
    rw [e] at h
    exact ⟨x, rfl, (Option.some.inj h).symm⟩
/-- a team bars z -/
def barT (lot : List Str) (z : Str) (t : Tm) : Bool := (t.ks.any fun k => behB lot z k.row) || decide (((t.ks.filter fun k => mayB k lot z).length : Int) < t.least)
def barB (lot : List Str) (z : Str) (bd : List Tm) : Bool := bd.any (barT lot z)
/-- boards as barred may be asked of -/
structure BdL (bd : List Tm) : Prop where
  n : ∀ t ∈ bd, t.ks.length ≤ 100
  l : ∀ t ∈ bd, ∀ k ∈ t.ks, k.row.length ≤ 100
  f : ∀ t ∈ bd, ∀ k ∈ t.ks, k.whole = true ∨ k.row ≠ []
theorem filter_more {α : Type} {p : α → Bool} {xs : List α} {i : Nat} {x : α} (h : xs[i]? = some x) : (xs.take (i + 1)).filter p = (xs.take i).filter p ++ if p x = true then [x] else [] := by
  rw [List.take_succ, h, List.filter_append]
  congr 1
  show List.filter p [x] = _
  rw [List.filter_cons, List.filter_nil]

theorem free_of {H H' : Hp} {q : Addr} (s : Same H H') (h : H' q = none) : H q = none := by
  cases e : H q with
  | none => rfl
  | some o =>
    have z := s _ _ e
    rw [h] at z
    cases z
/-! ### the heap but for some lists that change -/
def Fz (ps : List Addr) (H : Hp) : Hp := fun c => if c ∈ ps then none else H c
theorem fz_some {ps : List Addr} {H : Hp} {c : Addr} {u : HO} (h : Fz ps H c = some u) : c ∉ ps ∧ H c = some u := by
  unfold Fz at h
  split at h
  · cases h
  · rename_i z
    exact ⟨z, h⟩
theorem fz_put {ps : List Addr} {H : Hp} {c : Addr} {u : HO} (h : c ∉ ps) (e : H c = some u) : Fz ps H c = some u := by
  unfold Fz
  rw [if_neg h]
  exact e
theorem fz_less {ps : List Addr} {H : Hp} : Same (Fz ps H) H := fun _ _ h => (fz_some h).2
theorem fz_at {ps : List Addr} {H H' : Hp} {p : Addr} {o : HO} (s : Same (Fz ps H) (Fz ps H')) (h : p ∈ ps) : Same (Fz ps H) (Fz ps (upd H' p o)) := fun c u e => by
  obtain ⟨h1, h2⟩ := fz_some (s c u e)
  have ne : c ≠ p := fun z => h1 (by rw [z]; exact h)
  exact fz_put h1 (by rw [upd_ne ne]; exact h2)
theorem fz_new {ps : List Addr} {H H' : Hp} {p : Addr} {o : HO} (s : Same (Fz ps H) (Fz ps H')) (n : H' p = none) : Same (Fz ps H) (Fz ps (upd H' p o)) := fun c u e => by
  obtain ⟨h1, h2⟩ := fz_some (s c u e)
  exact fz_put h1 (by rw [upd_ne (ne_of_none h2 n)]; exact h2)
/-- a new list that is to change -/
theorem fz_add {ps : List Addr} {H : Hp} {p : Addr} {o : HO} (n : H p = none) : Same (Fz ps H) (Fz (p :: ps) (upd H p o)) := fun c u e => by
  obtain ⟨h1, h2⟩ := fz_some e
  have ne : c ≠ p := ne_of_none h2 n
  exact fz_put (fun z => (List.mem_cons.mp z).elim ne h1) (by rw [upd_ne ne]; exact h2)
theorem fz_drop {ps : List Addr} {H : Hp} {p : Addr} : Same (Fz (p :: ps) H) (Fz ps H) := fun c u e => by
  obtain ⟨h1, h2⟩ := fz_some e
  exact fz_put (fun z => h1 (List.mem_cons_of_mem _ z)) h2
/-- the scope of a returned comprehension -/
def rsc : List Stmt → Scope
  | .Return (some (.ListComp _ _ sc _)) _ :: _ => sc
  | _ :: r => rsc r
  | [] => defScope (.Pass ⟨0, 0, 0, 0⟩)
theorem blk2 {N N' : List Str} {sc sc' scope : Scope} {own : List (Str × Nat)} (e1 : N' = N) (e2 : sc' = sc) (h : blkC N sc scope own = true) : BlkOk N' sc' scope own := by
  rw [e1, e2]
  exact blkOk_by h
/-! ### bars as data -/
structure Tb where
  least : Int
  sure : List Str
  uns : List (Str × Str)
structure Br where
  beh : List Str
  ts : List Tb
def UnAt (H : Hp) (a : Addr) (q : Str × Str) : Prop := H a = some (.tup [.str q.1, .str q.2])
def TbAt (H : Hp) (a : Addr) (t : Tb) : Prop := ∃ (s u : Addr) (us : List Addr), H a = some (.tup [.int t.least, .ref s, .ref u]) ∧ H s = some (.lst (t.sure.map V.str)) ∧ H u = some (.lst (us.map V.ref)) ∧ Paired (UnAt H) us t.uns
def BrAt (H : Hp) (a : Addr) (r : Br) : Prop := ∃ (b t : Addr) (ts : List Addr), H a = some (.tup [.ref b, .ref t]) ∧ H b = some (.lst (r.beh.map V.str)) ∧ H t = some (.lst (ts.map V.ref)) ∧ Paired (TbAt H) ts r.ts
theorem UnAt.same {H H' : Hp} (s : Same H H') {a : Addr} {q : Str × Str} (h : UnAt H a q) : UnAt H' a q := s _ _ h
theorem TbAt.same {H H' : Hp} (s : Same H H') {a : Addr} {t : Tb} (h : TbAt H a t) : TbAt H' a t := by
  obtain ⟨p, u, us, h1, h2, h3, h4⟩ := h
  exact ⟨p, u, us, s _ _ h1, s _ _ h2, s _ _ h3, L2.Paired.mapP h4 fun _ _ q => q.same s⟩
theorem UnAt.std {H H' : Hp} (s : Std H H') {a : Addr} {q : Str × Str} (h : UnAt H a q) : UnAt H' a q := s _ _ h fun ps z => by cases z
theorem TbAt.std {H H' : Hp} (s : Std H H') {a : Addr} {t : Tb} (h : TbAt H a t) : TbAt H' a t := by
  obtain ⟨p, u, us, h1, h2, h3, h4⟩ := h
  exact ⟨p, u, us, s _ _ h1 (fun ps z => by cases z), s _ _ h2 (fun ps z => by cases z), s _ _ h3 (fun ps z => by cases z), L2.Paired.mapP h4 fun _ _ q => q.std s⟩
/-- the things behind z -/
def behL (z : Str) (row : List Str) : List Str := match row with
  | [] => []
  | x :: r => if x = z then r else behL z r
theorem behL_at {z : Str} : ∀ {row : List Str} {j : Nat}, row[j]? = some z → (∀ m : Nat, m < j → row[m]? ≠ some z) → behL z row = row.drop (j + 1)
  | [], _, h, _ => by simp at h
  | x :: r, 0, h, _ => by
    have e : x = z := Option.some.inj h
    show (if x = z then _ else _) = _
    rw [if_pos e]
    rfl
  | x :: r, j + 1, h, n => by
    have ne : ¬ x = z := fun e => n 0 (Nat.succ_pos _) (congrArg some e)
    show (if x = z then _ else _) = _
    rw [if_neg ne]
    exact behL_at (row := r) (j := j) h fun m lt => n (m + 1) (Nat.succ_lt_succ lt)
theorem behL_not {z : Str} : ∀ {row : List Str}, z ∉ row → behL z row = []
  | [], _ => rfl
  | x :: r, h => by
    have ne : ¬ x = z := fun e => h (by rw [e]; exact List.mem_cons_self)
    show (if x = z then _ else _) = _
    rw [if_neg ne]
    exact behL_not fun m => h (List.mem_cons_of_mem _ m)
theorem behL_B {lot : List Str} {z : Str} : ∀ row : List Str, behB lot z row = (behL z row).any fun y => decide (y ∈ lot)
  | [] => rfl
  | x :: r => by
    show (if x = z then _ else _) = List.any (if x = z then _ else _) _
    by_cases e : x = z
    · rw [if_pos e, if_pos e]
    · rw [if_neg e, if_neg e]
      exact behL_B r
theorem behL_len (z : Str) : ∀ row : List Str, (behL z row).length ≤ row.length
  | [] => Nat.le_refl _
  | x :: r => by
    show (if x = z then _ else _ : List Str).length ≤ _
    have := behL_len z r
    rw [List.length_cons]
    split <;> omega
/-- what one keeper adds -/
def sureK (z : Str) (k : Kp) : List Str := if z ∈ k.row then [k.name] else []
def unsK (z u : Str) (k : Kp) : List (Str × Str) := if z ∈ k.row then [] else if k.whole = false ∧ k.name ≠ u then match k.row with
  | [] => []
  | x :: _ => [(k.name, x)] else []
def tbOf (z u : Str) (t : Tm) : Tb := ⟨t.least, t.ks.flatMap (sureK z), t.ks.flatMap (unsK z u)⟩
def brOf (z u : Str) (bd : List Tm) : Br := ⟨bd.flatMap fun t => t.ks.flatMap fun k => behL z k.row, bd.map (tbOf z u)⟩
/-- those who can have been told it -/
def hear (lot : List Str) (t : Tb) : List Str := t.sure ++ (t.uns.filter fun q => decide (q.2 ∉ lot)).map (·.1)
def brB (lot : List Str) (r : Br) : Bool := (r.beh.any fun y => decide (y ∈ lot)) || r.ts.any fun t => decide (((hear lot t).length : Int) < t.least)
theorem hear_len {lot : List Str} {z : Str} {t : Tm} (f : ∀ k ∈ t.ks, k.whole = true ∨ k.row ≠ []) (nn : ∀ k ∈ t.ks, k.name ≠ Str.empty) :
    (hear lot (tbOf z Str.empty t)).length = (t.ks.filter fun k => mayB k lot z).length := by
  unfold hear tbOf
  rw [List.length_append, List.length_map]
  generalize t.ks = ks at f nn
  induction ks with
  | nil => rfl
  | cons k r ih =>
    have ih : (r.flatMap (sureK z)).length + ((r.flatMap (unsK z Str.empty)).filter fun q => decide (q.2 ∉ lot)).length = (r.filter fun k => mayB k lot z).length := ih (fun x hx => f x (List.mem_cons_of_mem _ hx)) fun x hx => nn x (List.mem_cons_of_mem _ hx)
    show ((k :: r).flatMap (sureK z)).length + (((k :: r).flatMap (unsK z Str.empty)).filter fun q => decide (q.2 ∉ lot)).length = _
    rw [List.flatMap_cons, List.flatMap_cons, List.length_append, List.filter_append, List.length_append, List.filter_cons]
    have key : (sureK z k).length + ((unsK z Str.empty k).filter fun q => decide (q.2 ∉ lot)).length = if mayB k lot z = true then 1 else 0 := by
      unfold sureK unsK mayB
      by_cases m : z ∈ k.row
      · rw [if_pos m, if_pos m, decide_eq_true m, Bool.true_or]
        rfl
      · rw [if_neg m, if_neg m, decide_eq_false m, Bool.false_or]
        cases hw : k.whole with
        | true =>
          rw [if_neg (by simp)]
          rfl
        | false =>
          rw [if_pos ⟨rfl, nn k List.mem_cons_self⟩]
          cases hr : k.row with
          | nil => exact absurd hr ((f k List.mem_cons_self).resolve_left (by rw [hw]; simp))
          | cons x xs =>
            show 0 + (List.filter _ [(k.name, x)]).length = _
            rw [List.filter_cons, List.filter_nil]
            by_cases q : x ∈ lot
            · simp [q]
            · simp [q]
    split <;> rename_i h
    · rw [if_pos h] at key
      rw [List.length_cons]
      omega
    · rw [if_neg h] at key
      omega
theorem brB_eq {lot : List Str} {z : Str} {bd : List Tm} (l : ∀ t ∈ bd, ∀ k ∈ t.ks, k.whole = true ∨ k.row ≠ []) (nn : ∀ t ∈ bd, ∀ k ∈ t.ks, k.name ≠ Str.empty) : brB lot (brOf z Str.empty bd) = barB lot z bd := by
  have key : ∀ bd : List Tm, (∀ t ∈ bd, ∀ k ∈ t.ks, k.whole = true ∨ k.row ≠ []) → (∀ t ∈ bd, ∀ k ∈ t.ks, k.name ≠ Str.empty) → brB lot (brOf z Str.empty bd) = barB lot z bd := fun bd => by
    induction bd with
    | nil => intros; rfl
    | cons t r ih =>
      intro l nn
      have ih := ih (fun x hx => l x (List.mem_cons_of_mem _ hx)) fun x hx => nn x (List.mem_cons_of_mem _ hx)
      have hl := hear_len (lot := lot) (z := z) (l t List.mem_cons_self) (nn t List.mem_cons_self)
      have hb : ((t.ks.flatMap fun k => behL z k.row).any fun y => decide (y ∈ lot)) = t.ks.any fun k => behB lot z k.row := by
        generalize t.ks = ks
        induction ks with
        | nil => rfl
        | cons k q jh => rw [List.flatMap_cons, List.any_append, jh, List.any_cons, behL_B]
      unfold brB brOf barB at ih ⊢
      rw [List.any_cons, ← ih, List.flatMap_cons, List.map_cons, List.any_append, List.any_cons, hb]
      unfold barT
      rw [hl]
      show (_ || _ || (decide (_ < t.least) || _)) = (_ || decide (_ < t.least) || (_ || _))
      simp only [Bool.or_assoc, Bool.or_left_comm]
  exact key bd l nn
end My
namespace My
open PySem PySem.Spec PyProof.Rows L2
open GxR (TabB TabG Tabbed)
/-- boards that may be asked of: who isn't whole has something; no empty names -/
structure BdF (bd : List Tm) : Prop where
  f : ∀ t ∈ bd, ∀ k ∈ t.ks, k.whole = true ∨ k.row ≠ []
  nn : ∀ t ∈ bd, ∀ k ∈ t.ks, k.name ≠ Str.empty
def spBarOf : Sp := fun vs H Q _ => ∃ (a : Addr) (z u : Str) (bd : List Tm), vs = [.ref a, .str z, .str u] ∧ BdAt H a bd ∧ BdOk bd ∧ BdF bd ∧
  ∀ (p : Addr) (H' : Hp), Same H H' → BrAt H' p (brOf z u bd) → Q (.ref p) H'
theorem beh_take {z : Str} {ks : List Kp} {i : Nat} {k : Kp} (h : ks[i]? = some k) {α : Type} (f : Kp → List α) : (ks.take (i + 1)).flatMap f = (ks.take i).flatMap f ++ f k := by
  rw [List.take_succ, h, List.flatMap_append]
  show _ ++ List.flatMap _ [k] = _
  rw [List.flatMap_cons, List.flatMap_nil, List.append_nil]
theorem flat_len {α : Type} {f : Kp → List α} {m : Nat} : ∀ {ks : List Kp}, (∀ k ∈ ks, (f k).length ≤ m) → (ks.flatMap f).length ≤ m * ks.length
  | [], _ => Nat.le_refl _
  | k :: r, h => by
    have a := flat_len (ks := r) fun x hx => h x (List.mem_cons_of_mem _ hx)
    have b := h k List.mem_cons_self
    rw [List.flatMap_cons, List.length_append, List.length_cons, Nat.mul_succ]
    omega
theorem behT_len {z : Str} : ∀ {bd : List Tm}, (∀ t ∈ bd, TmOk t) → (bd.flatMap fun t => t.ks.flatMap fun k => behL z k.row).length ≤ 96 * bd.length
  | [], _ => Nat.le_refl _
  | t :: r, h => by
    have a := behT_len (z := z) (bd := r) fun x hx => h x (List.mem_cons_of_mem _ hx)
    have ok := h t List.mem_cons_self
    have b := flat_len (f := fun k => behL z k.row) (m := 12) (ks := t.ks) fun k hk => Nat.le_trans (behL_len z k.row) (ok.ok k hk).l12
    have c := ok.k8
    rw [List.flatMap_cons, List.length_append, List.length_cons]
    have : 12 * t.ks.length ≤ 96 := by omega
    omega
section
variable {P : Program} {w : World} {K : PySem.W.Frag} {mg : Str → Option Value} {base : Heap} {A : Ad} {C : Cd}
theorem ok_bar_of (T : Txt K mg A) : FnOk P w K mg base CX0 1 A.f_bar_of A.d_bar_of P_bar_of spBarOf := by
  refine T.F_bar_of.ok sc_bar_of (fun vs H Q E h => ?_) (fun cdv A' outer s H vs Q E hr h => ?_)
  · obtain ⟨a, z, u, bd, rfl, _⟩ := h
    rfl
  · obtain ⟨a, z, u, bd, rfl, ⟨as, ha, pa⟩, ok, bf, k⟩ := h
    refine ⟨_, (pss_cons (ps_set (i := 3) sc_bar_of.nd rfl (Or.inl rfl) (pe_lst pa_nil))
    (pss_cons (ps_set (i := 4) sc_bar_of.nd rfl (Or.inl rfl) (pe_lst pa_nil))
    (pss_cons (ps_nox (ps_for PassesOwn.never rfl (pi_listK (K := K) rfl (pv 0)) (pg_tup rfl (pgs_cons (pg_name (i := 5) sc_bar_of.nd rfl (Or.inl rfl)) (pgs_cons (pg_name (i := 6) sc_bar_of.nd rfl (Or.inl rfl)) pgs_nil)))
      (pss_cons (ps_set (i := 7) sc_bar_of.nd rfl (Or.inl rfl) (pe_lst pa_nil))
      (pss_cons (ps_set (i := 8) sc_bar_of.nd rfl (Or.inl rfl) (pe_lst pa_nil))
      (pss_cons (ps_nox (ps_for PassesOwn.never rfl (pi_listK (K := K) rfl (pv 6)) (pg_tup rfl (pgs_cons (pg_name (i := 9) sc_bar_of.nd rfl (Or.inl rfl)) (pgs_cons (pg_name (i := 10) sc_bar_of.nd rfl (Or.inl rfl)) (pgs_cons (pg_name (i := 11) sc_bar_of.nd rfl (Or.inl rfl)) (pgs_cons (pg_name (i := 12) sc_bar_of.nd rfl (Or.inl rfl)) pgs_nil)))))
        (pss_one (ps_if (pt_cmpR (in_seqK (K := K) rfl) (pv 1) (pv 12) (by rfl))
          (pss_cons (ps_expr (pe_K (K := K) rfl (pe_bm PySem.F.plainAttrs_list PySem.F.slot_list_append PySem.F.type_list_append mt_append (by exact (pv 7)) (by exact (pa_cons (pv 9) pa_nil)))))
          (pss_one (ps_expr (pe_K (K := K) rfl (pe_bm PySem.F.plainAttrs_list PySem.F.slot_list_extend PySem.F.type_list_extend mt_extend (by exact (pv 3)) (by exact (pa_cons (pe_slice (sl_listK (K := K) rfl) (pv 12) (po_some (pe_op op_add (pe_K (K := K) rfl (pe_bm PySem.F.plainAttrs_list PySem.F.slot_list_index PySem.F.type_list_index mt_index (by exact (pv 12)) (by exact (pa_cons (pv 1) pa_nil)))) pe_int)) po_none) pa_nil)))))))
          (pss_one (ps_if (PW.pt (pw_and (pt_not (pt_val (pv 11))) (pw_and1 (pt_cmpR op_ne (pv 9) (pv 2) (nomark _)))))
            (pss_one (ps_expr (pe_K (K := K) rfl (pe_bm PySem.F.plainAttrs_list PySem.F.slot_list_append PySem.F.type_list_append mt_append (by exact (pv 8)) (by exact (pa_cons (pe_tup (pa_cons (pv 9) (pa_cons (pe_ix (ix_listK (K := K) rfl) (pv 12) pe_int (fun _ _ => rfl)) pa_nil))) pa_nil))))))
            pss_nil))))))
      (pss_one (ps_expr (pe_K (K := K) rfl (pe_bm PySem.F.plainAttrs_list PySem.F.slot_list_append PySem.F.type_list_append mt_append (by exact (pv 4)) (by exact (pa_cons (pe_tup (pa_cons (pv 5) (pa_cons (pv 7) (pa_cons (pv 8) pa_nil)))) pa_nil)))))))))))
    (pss_one (ps_ret (pe_tup (pa_cons (pv 3) (pa_cons (pv 4) pa_nil)))))))), ?_⟩
    have al := pa.length
    refine ⟨(show 0 ≤ sizeLine by decide), fun B nB => ?_⟩
    refine ⟨(show 0 ≤ sizeLine by decide), fun T nT => ?_⟩
    have hB0 : upd H B (.lst []) B = some (.lst []) := upd_same
    have BT : B ≠ T := ne_of_none hB0 nT
    have nT0 : H T = none := by
      rw [upd_ne BT.symm] at nT
      exact nT
    refine ⟨_, rfl, a, rfl, ⟨_, SqL.of (same_new nT _ _ (same_new nB _ _ ha))⟩, for_list (K := K) (a := a) (xs := as.map V.ref) (fun i σ G => Same H G ∧ ∃ (ts : List Addr) (v5 v6 v7 v8 v9 va vb vc : Option V), σ = [some (.ref a), some (.str z), some (.str u), some (.ref B), some (.ref T), v5, v6, v7, v8, v9, va, vb, vc] ∧
        G B = some (.lst (((bd.take i).flatMap fun t => t.ks.flatMap fun k => behL z k.row).map V.str)) ∧ G T = some (.lst (ts.map V.ref)) ∧ Paired (TbAt (Fz [B, T] G)) ts ((bd.take i).map (tbOf z u)))
      ⟨(same_new nB).trans (same_new nT), [], none, none, none, none, none, none, none, none, rfl, by rw [upd_ne BT]; exact upd_same, upd_same, .nil⟩ (fun i σ G _ q => SqL.of (q.1 _ _ ha)) ?_ ?_⟩
    · rintro i x σ G hi ⟨sG, ts, v5, v6, v7, v8, v9, va, vb, vc, rfl, hB, hT, pt⟩
      obtain ⟨x, ex, rfl⟩ := item_ref hi
      obtain ⟨t, et, c, cs, ht, hc, pc⟩ := paired_at pa ex
      have mem := List.mem_of_getElem? et
      have tok := ok.ok t mem
      have cl := pc.length
      have tl := pt.length
      have k8 := tok.k8
      rw [List.length_map, List.length_take] at tl
      have t3 := ok.t3
      have bl := behT_len (z := z) (bd := bd.take i) fun x hx => ok.ok x (List.mem_of_mem_take hx)
      rw [List.length_take] at bl
      have bl3 : ((bd.take i).flatMap fun t => t.ks.flatMap fun k => behL z k.row).length ≤ 288 := by omega
      refine ⟨x, _, rfl, SqT.of (sG _ _ ht), rfl, _, _, rfl, _, _, rfl, rfl, ?_⟩
      refine ⟨(show 0 ≤ sizeLine by decide), fun S nS => ?_⟩
      refine ⟨(show 0 ≤ sizeLine by decide), fun U nU => ?_⟩
      have hS0 : upd G S (.lst []) S = some (.lst []) := upd_same
      have SU : S ≠ U := ne_of_none hS0 nU
      have nU0 : G U = none := by
        rw [upd_ne SU.symm] at nU
        exact nU
      have BS : B ≠ S := ne_of_none hB nS
      have BU : B ≠ U := ne_of_none hB nU0
      have TS_ : T ≠ S := ne_of_none hT nS
      have TU : T ≠ U := ne_of_none hT nU0
      have nS0 := free_of sG nS
      have nUH := free_of sG nU0
      have pt2 : Paired (TbAt (Fz [U, S, B, T] (upd (upd G S (.lst [])) U (.lst [])))) ts ((bd.take i).map (tbOf z u)) := L2.Paired.mapP pt fun _ _ q => q.same ((fz_add nS).trans (fz_add nU))
      refine ⟨_, rfl, c, rfl, ⟨_, SqL.of (same_new nU _ _ (same_new nS _ _ (sG _ _ hc)))⟩, for_list (K := K) (a := c) (xs := cs.map V.ref) (fun j σ F => Same H F ∧ ∃ (us : List Addr) (v9 va vb vc : Option V), σ = [some (.ref a), some (.str z), some (.str u), some (.ref B), some (.ref T), some (.int t.least), some (.ref c), some (.ref S), some (.ref U), v9, va, vb, vc] ∧
          F B = some (.lst (((bd.take i).flatMap (fun t => t.ks.flatMap fun k => behL z k.row) ++ (t.ks.take j).flatMap fun k => behL z k.row).map V.str)) ∧ F T = some (.lst (ts.map V.ref)) ∧ F S = some (.lst (((t.ks.take j).flatMap (sureK z)).map V.str)) ∧ F U = some (.lst (us.map V.ref)) ∧
          Paired (UnAt (Fz [U, S, B, T] F)) us ((t.ks.take j).flatMap (unsK z u)) ∧ Paired (TbAt (Fz [U, S, B, T] F)) ts ((bd.take i).map (tbOf z u)))
        ⟨sG.trans ((same_new nS).trans (same_new nU)), [], v9, va, vb, vc, rfl, by rw [upd_ne BU, upd_ne BS, List.take_zero, List.flatMap_nil, List.append_nil]; exact hB, by rw [upd_ne TU, upd_ne TS_]; exact hT, by rw [upd_ne SU]; exact upd_same, upd_same, .nil, pt2⟩ (fun j σ F _ q => SqL.of (q.1 _ _ hc)) ?_ ?_⟩
      · rintro j y σ F hj ⟨sF, us, v9, va, vb, vc, rfl, hB, hT, hS, hU, pu, pt⟩
        obtain ⟨y, ey, rfl⟩ := item_ref hj
        obtain ⟨kp, ek, r, c1, c2⟩ := paired_at pc ey
        have kmem := List.mem_of_getElem? ek
        have kok := tok.ok kp kmem
        have r12 := kok.l12
        have ul := pu.length
        have jl : j < t.ks.length := (List.getElem?_eq_some_iff.mp ek).1
        have sl := flat_len (f := sureK z) (m := 1) (ks := t.ks.take j) fun k _ => by unfold sureK; split <;> simp
        have vl := flat_len (f := unsK z u) (m := 1) (ks := t.ks.take j) fun k _ => by
          unfold unsK
          split
          · simp
          · split
            · split <;> simp
            · simp
        have wl := flat_len (f := fun k => behL z k.row) (m := 12) (ks := t.ks.take j) fun k hk => Nat.le_trans (behL_len z k.row) (tok.ok k (List.mem_of_mem_take hk)).l12
        rw [List.length_take] at sl vl wl
        refine ⟨y, _, rfl, SqT.of (sF _ _ c1), rfl, _, _, rfl, _, _, rfl, _, _, rfl, _, _, rfl, rfl, ?_⟩
        refine ⟨_, rfl, _, rfl, r, _, rfl, .inl (SqL.of (sF _ _ c2)), rfl, flat_strs _, _, rfl, ?_⟩
        rw [inV_strs]
        by_cases m : z ∈ kp.row
        · rw [decide_eq_true m]
          refine iteT ?_
          obtain ⟨i1, ei, ni⟩ := first_at m
          refine ⟨_, rfl, .inl ⟨rfl, _, SqL.of hS⟩, _, rfl, S, _, _, rfl, rfl, hS, by rw [List.length_map]; exact lt_size (m := 101) (by omega) (by decide), ?_⟩
          have nSB : S ≠ B := BS.symm
          have hB1 : upd F S (.lst (((t.ks.take j).flatMap (sureK z)).map V.str ++ [V.str kp.name])) B = _ := (upd_ne BS).trans hB
          have rS : r ≠ S := ne_of_none (sG _ _ c2) nS
          have c21 : upd F S (.lst (((t.ks.take j).flatMap (sureK z)).map V.str ++ [V.str kp.name])) r = some (.lst (kp.row.map V.str)) := (upd_ne rS).trans (sF _ _ c2)
          refine ⟨_, rfl, .inl ⟨rfl, _, SqL.of hB1⟩, _, rfl, _, rfl, .inl ⟨rfl, _, SqL.of c21⟩, _, rfl, r, _, .str z, i1, .str z, rfl, rfl, SqL.of c21, rfl, flat_strs _, map_at ei, beq_self_eq_true z, fun m' z' lt e => ?_, _, _, rfl, rfl, _, rfl, r, _, rfl, SqL.of c21, fun p np => ?_⟩
          · obtain ⟨y, hy, rfl⟩ := item_str e
            exact beq_eq_false_iff_ne.mpr fun q => ni m' lt (q ▸ hy)
          have ec : cutV (kp.row.map V.str) (some ((i1 : Int) + 1)) none = (kp.row.drop (i1 + 1)).map V.str := cut_from (k := i1 + 1)
          rw [ec, ← behL_at ei ni]
          have Bp : B ≠ p := ne_of_none hB1 np
          have bl1 := behL_len z kp.row
          refine ⟨B, p, _, _, rfl, rfl, (upd_ne Bp).trans hB1, upd_same, by rw [List.length_map, List.length_map, List.length_append]; exact Nat.le_of_lt (small1000 (by omega)), ?_⟩
          have hS2 : upd F S (.lst (((t.ks.take j).flatMap (sureK z)).map V.str ++ [V.str kp.name])) S = _ := upd_same
          have Sp : S ≠ p := ne_of_none hS2 np
          have hT1 : upd F S (.lst (((t.ks.take j).flatMap (sureK z)).map V.str ++ [V.str kp.name])) T = _ := (upd_ne TS_).trans hT
          have Tp : T ≠ p := ne_of_none hT1 np
          have hU1 : upd F S (.lst (((t.ks.take j).flatMap (sureK z)).map V.str ++ [V.str kp.name])) U = _ := (upd_ne SU.symm).trans hU
          have Up : U ≠ p := ne_of_none hU1 np
          have sk : sureK z kp = [kp.name] := by unfold sureK; rw [if_pos m]
          have uk : unsK z u kp = [] := by unfold unsK; rw [if_pos m]
          have sm : ∀ {o1 o2 o3 : HO}, Same (Fz [U, S, B, T] F) (Fz [U, S, B, T] (upd (upd (upd F S o1) p o2) B o3)) := fun {o1 o2 o3} => by
            refine fz_at (fz_new (fz_at (Same.refl _) (by simp)) ?_) (by simp)
            rw [upd_ne Sp.symm] at np ⊢
            exact np
          refine ⟨?_, us, _, _, _, _, rfl, ?_, ?_, ?_, ?_, ?_, ?_⟩
          · have npF : F p = none := by
              rw [upd_ne Sp.symm] at np
              exact np
            exact same_over (same_over (same_over sF nS0) (free_of sF npF)) nB
          · rw [upd_same, beh_take (z := z) ek, ← List.map_append, List.append_assoc]
          · rw [upd_ne BT.symm, upd_ne Tp]
            exact hT1
          · rw [upd_ne nSB, upd_ne Sp, upd_same, beh_take (z := z) ek, sk, List.map_append]
            rfl
          · rw [upd_ne BU.symm, upd_ne Up]
            exact hU1
          · rw [beh_take (z := z) ek, uk, List.append_nil]
            exact L2.Paired.mapP pu fun _ _ q => q.same sm
          · exact L2.Paired.mapP pt fun _ _ q => q.same sm
        · rw [decide_eq_false m]
          refine iteF ?_
          have sk : sureK z kp = [] := by unfold sureK; rw [if_neg m]
          have bk : behL z kp.row = [] := behL_not m
          have stay : unsK z u kp = [] → Same H F ∧ ∃ (us : List Addr) (v9' va' vb' vc' : Option V), ([some (.ref a), some (.str z), some (.str u), some (.ref B), some (.ref T), some (.int t.least), some (.ref c), some (.ref S), some (.ref U), some (.str kp.name), some (.int kp.room), some (.bl kp.whole), some (.ref r)] : L2.St) = [some (.ref a), some (.str z), some (.str u), some (.ref B), some (.ref T), some (.int t.least), some (.ref c), some (.ref S), some (.ref U), v9', va', vb', vc'] ∧
              F B = some (.lst (((bd.take i).flatMap (fun t => t.ks.flatMap fun k => behL z k.row) ++ (t.ks.take (j + 1)).flatMap fun k => behL z k.row).map V.str)) ∧ F T = some (.lst (ts.map V.ref)) ∧ F S = some (.lst (((t.ks.take (j + 1)).flatMap (sureK z)).map V.str)) ∧ F U = some (.lst (us.map V.ref)) ∧
              Paired (UnAt (Fz [U, S, B, T] F)) us ((t.ks.take (j + 1)).flatMap (unsK z u)) ∧ Paired (TbAt (Fz [U, S, B, T] F)) ts ((bd.take i).map (tbOf z u)) := fun uk => by
            refine ⟨sF, us, _, _, _, _, rfl, ?_, hT, ?_, hU, ?_, pt⟩
            · rw [beh_take (z := z) ek, bk, List.append_nil]
              exact hB
            · rw [beh_take (z := z) ek, sk, List.append_nil]
              exact hS
            · rw [beh_take (z := z) ek, uk, List.append_nil]
              exact pu
          refine ⟨_, rfl, kp.whole, rfl, ?_⟩
          cases hw : kp.whole with
          | true =>
            rw [hw] at stay
            refine iteF (iteF (stay ?_))
            unfold unsK
            rw [if_neg m, hw, if_neg (by simp)]
          | false =>
            rw [hw] at stay
            refine iteT ?_
            refine ⟨_, rfl, _, rfl, rfl, _, rfl, ?_⟩
            by_cases en : kp.name = u
            · rw [decide_eq_true (show V.str kp.name = V.str u by rw [en])]
              refine iteF (stay ?_)
              unfold unsK
              rw [if_neg m, if_neg (by simp [en])]
            · rw [decide_eq_false (show ¬ V.str kp.name = V.str u from fun q => en (V.str.inj q))]
              refine iteT ?_
              cases hrow : kp.row with
              | nil => exact absurd hrow ((bf.f t mem kp kmem).resolve_left (by rw [hw]; simp))
              | cons x0 xs0 =>
                have c2' := sF _ _ c2
                rw [hrow] at c2'
                refine ⟨_, rfl, .inl ⟨rfl, _, SqL.of hU⟩, _, rfl, _, rfl, r, _, _, _, rfl, rfl, SqL.of c2', atI_nat (j := 0) (v := V.str x0) rfl, (show 2 ≤ sizeLine by decide), fun q nq => ?_⟩
                have Uq : U ≠ q := ne_of_none hU nq
                have Bq : B ≠ q := ne_of_none hB nq
                have Tq : T ≠ q := ne_of_none hT nq
                have Sq : S ≠ q := ne_of_none hS nq
                refine ⟨U, _, _, rfl, rfl, (upd_ne Uq).trans hU, by rw [List.length_map, ul]; exact lt_size (m := 101) (by omega) (by decide), ?_⟩
                have uk : unsK z u kp = [(kp.name, x0)] := by
                  unfold unsK
                  rw [if_neg m, if_pos ⟨hw, en⟩, hrow]
                have sm : ∀ {o1 o2 : HO}, Same (Fz [U, S, B, T] F) (Fz [U, S, B, T] (upd (upd F q o1) U o2)) := fun {o1 o2} => fz_at (fz_new (Same.refl _) nq) (by simp)
                have nqi : q ∉ [U, S, B, T] := fun h => by
                  simp only [List.mem_cons, List.not_mem_nil, or_false] at h
                  rcases h with h | h | h | h
                  · exact Uq h.symm
                  · exact Sq h.symm
                  · exact Bq h.symm
                  · exact Tq h.symm
                refine ⟨same_over (same_over sF (free_of sF nq)) nUH, us ++ [q], _, _, _, _, rfl, ?_, ?_, ?_, ?_, ?_, ?_⟩
                · rw [upd_ne BU, upd_ne Bq, beh_take (z := z) ek, bk, List.append_nil]
                  exact hB
                · rw [upd_ne TU, upd_ne Tq]
                  exact hT
                · rw [upd_ne SU, upd_ne Sq, beh_take (z := z) ek, sk, List.append_nil]
                  exact hS
                · rw [upd_same, List.map_append]
                  rfl
                · rw [beh_take (z := z) ek, uk]
                  refine paired_snoc (L2.Paired.mapP pu fun _ _ y => y.same sm) ?_
                  exact fz_put nqi (by rw [upd_ne Uq.symm]; exact upd_same)
                · exact L2.Paired.mapP pt fun _ _ y => y.same sm
      · rintro σ F ⟨sF, us, v9, va, vb, vc, rfl, hB, hT, hS, hU, pu, pt⟩
        rw [List.length_map, List.take_of_length_le (l := t.ks) (by omega)] at hB hS pu
        refine ⟨_, rfl, .inl ⟨rfl, _, SqL.of hT⟩, _, rfl, _, rfl, _, rfl, (show 3 ≤ sizeLine by decide), fun q nq => ?_⟩
        have Uq : U ≠ q := ne_of_none hU nq
        have Bq : B ≠ q := ne_of_none hB nq
        have Tq : T ≠ q := ne_of_none hT nq
        have Sq : S ≠ q := ne_of_none hS nq
        refine ⟨T, _, _, rfl, rfl, (upd_ne Tq).trans hT, by rw [List.length_map]; exact lt_size (m := 101) (by omega) (by decide), ?_⟩
        have sm : ∀ {o1 o2 : HO}, Same (Fz [U, S, B, T] F) (Fz [B, T] (upd (upd F q o1) T o2)) := fun {o1 o2} => by
          have y : Same (Fz [U, S, B, T] F) (Fz [U, S, B, T] (upd (upd F q o1) T o2)) := fz_at (fz_new (Same.refl _) nq) (by simp)
          exact y.trans (fz_drop.trans fz_drop)
        refine ⟨same_over (same_over sF (free_of sF nq)) nT0, ts ++ [q], _, _, _, _, _, _, _, _, rfl, ?_, ?_, ?_⟩
        · rw [upd_ne BT, upd_ne Bq, hB, List.take_succ, et, List.flatMap_append]
          show some (HO.lst (List.map V.str (_ ++ _))) = some (HO.lst (List.map V.str (_ ++ List.flatMap _ [t])))
          rw [List.flatMap_cons, List.flatMap_nil, List.append_nil]
        · rw [upd_same, List.map_append]
          rfl
        · rw [List.take_succ, et, List.map_append]
          refine paired_snoc (L2.Paired.mapP pt fun _ _ y => y.same sm) ?_
          have out : ∀ {p : Addr} {o : HO}, F p = some o → p ≠ B → p ≠ T → Fz [B, T] (upd (upd F q (.tup [.int t.least, .ref S, .ref U])) T (.lst (ts.map V.ref ++ [V.ref q]))) p = some o := fun {p o} h1 h2 h3 => by
            refine fz_put (by simp [h2, h3]) ?_
            rw [upd_ne h3, upd_ne (ne_of_none h1 nq)]
            exact h1
          refine ⟨S, U, us, ?_, out hS BS.symm TS_.symm, out hU BU.symm TU.symm, L2.Paired.mapP pu fun _ _ y => y.same sm⟩
          exact fz_put (by simp [Bq.symm, Tq.symm]) (by rw [upd_ne Tq.symm]; exact upd_same)
    · rintro σ G ⟨sG, ts, v5, v6, v7, v8, v9, va, vb, vc, rfl, hB, hT, pt⟩
      rw [List.length_map, List.take_of_length_le (by omega)] at hB pt
      refine ⟨_, rfl, _, rfl, (show 2 ≤ sizeLine by decide), fun p np => ?_⟩
      refine k p _ (sG.trans (same_new np)) ⟨B, T, ts, upd_same, same_new np _ _ hB, same_new np _ _ hT, ?_⟩
      exact L2.Paired.mapP pt fun _ _ y => y.same (fz_less.trans (same_new np))
def spHear : Sp := fun vs H Q _ => ∃ (a l : Addr) (r : Br) (lot : List Str), vs = [.ref a, .ref l] ∧ BrAt H a r ∧ DKeys H l lot ∧ r.ts.length ≤ 3 ∧ (∀ t ∈ r.ts, t.sure.length ≤ 8 ∧ t.uns.length ≤ 8) ∧
  ∀ (p : Addr) (hs : List Addr) (H' : Hp), H' p = some (.lst (hs.map V.ref)) → Paired (fun a t => ∃ q, H' a = some (.tup [.int t.least, .ref q]) ∧ H' q = some (.lst ((hear lot t).map V.str))) hs r.ts → Same H H' → Q (.ref p) H'
theorem ok_hearers (T : Txt K mg A) : FnOk P w K mg base CX0 1 A.f_hearers A.d_hearers P_hearers spHear := by
  refine T.F_hearers.ok sc_hearers (fun vs H Q E h => ?_) (fun cdv A' outer s H vs Q E hr h => ?_)
  · obtain ⟨a, l, r, lot, rfl, _⟩ := h
    rfl
  · obtain ⟨a, l, r, lot, rfl, ⟨b, t, ts, ha, hb, ht, pt⟩, hl, t3, t8, k⟩ := h
    refine ⟨_, (pss_one (ps_ret (pe_lc (own := [("least", 2), ("sure", 3), ("unsure", 4)]) (tt := tYes) (g := (gTup K 3 (gCons (gName 2) (gCons (gName 3) (gCons (gName 4) gNil))))) rfl sc_hearers.nd (pi_listK (K := K) rfl (pe_ix (ix_tupK (K := K) rfl) (pv 0) pe_int (fun _ _ => rfl))) (blkOk_by (own := [("least", 2), ("sure", 3), ("unsure", 4)]) (N := N_hearers) (sc := defScope s_hearers) (by decide +kernel)) (fun _ _ _ _ _ => (pg_tup rfl (pgs_cons (pg_name (i := 2) sc_hearers.nd rfl (Or.inl rfl)) (pgs_cons (pg_name (i := 3) sc_hearers.nd rfl (Or.inl rfl)) (pgs_cons (pg_name (i := 4) sc_hearers.nd rfl (Or.inl rfl)) pgs_nil))))) (fun _ _ _ _ _ => pts_nil) (fun _ _ _ _ _ => by exact (pe_tup (pa_cons (pv 2) (pa_cons (pe_op op_cat (pv 3) (pe_lc (own := [("name", 5), ("eldest", 6)]) (g := (gTup K 2 (gCons (gName 5) (gCons (gName 6) gNil)))) rfl sc_hearers.nd (pi_listK (K := K) rfl (pv 4)) (blk2 (own := [("name", 5), ("eldest", 6)]) (N := N_hearers) (sc := { rsc (defBody s_hearers) with names := [(".0", .local), ("least", .local), ("sure", .local), ("unsure", .local), ("lot", .cell)] }) rfl rfl (by decide +kernel)) (fun _ _ _ _ _ => (pg_tup rfl (pgs_cons (pg_name (i := 5) sc_hearers.nd rfl (Or.inl rfl)) (pgs_cons (pg_name (i := 6) sc_hearers.nd rfl (Or.inl rfl)) pgs_nil)))) (fun _ _ _ _ _ => pts_one (pt_cmp (pc_dnotin (hu_of hr) (pv 6) (pv 1)) rfl)) (fun _ _ _ _ _ => by exact (pv 5)))) pa_nil))))))), ?_⟩
    have tl := pt.length
    refine ⟨_, rfl, a, _, _, _, rfl, rfl, SqT.of ha, rfl, ?_⟩
    refine ⟨t, rfl, ⟨_, SqL.of ht⟩, fun D nD => ?_⟩
    refine lc_list (K := K) (a := t) (xs := ts.map V.ref) (fun i G => Same H G ∧ ∃ hs : List Addr, G D = some (.lst (hs.map V.ref)) ∧ Paired (fun a t => ∃ q, Fz [D] G a = some (.tup [.int t.least, .ref q]) ∧ Fz [D] G q = some (.lst ((hear lot t).map V.str))) hs (r.ts.take i))
      ⟨same_new nD, [], upd_same, .nil⟩ (fun i G _ z => SqL.of (z.1 _ _ ht)) ?_ ?_
    · rintro i x G hi ⟨sG, hs, hD, ph⟩
      obtain ⟨x, ex, rfl⟩ := item_ref hi
      obtain ⟨tb, et, s1, u1, us, e1, e2, e3, pu⟩ := paired_at pt ex
      have lt8 := t8 tb (List.mem_of_getElem? et)
      have phl := ph.length
      rw [List.length_take] at phl
      refine ⟨x, _, rfl, SqT.of (sG _ _ e1), rfl, _, _, rfl, _, _, rfl, _, _, rfl, rfl, rfl, ?_⟩
      refine ⟨_, rfl, _, rfl, _, rfl, u1, rfl, ⟨_, SqL.of (sG _ _ e3)⟩, fun E nE => ?_⟩
      have DE : D ≠ E := ne_of_none hD nE
      have nD0 : ∀ {c : Addr} {o : HO}, H c = some o → c ≠ D := fun h => ne_of_none h nD
      have nE0 := free_of sG nE
      refine lc_list (K := K) (a := u1) (xs := us.map V.ref) (fun j F => Same H F ∧ F D = some (.lst (hs.map V.ref)) ∧ Same (Fz [D] G) (Fz [D] F) ∧ F E = some (.lst ((((tb.uns.take j).filter fun q => decide (q.2 ∉ lot)).map (·.1)).map V.str)))
        ⟨sG.trans (same_new nE), (upd_ne DE).trans hD, fz_new (Same.refl _) nE, upd_same⟩ (fun j F _ z => SqL.of (z.1 _ _ e3)) ?_ ?_
      · rintro j y F hj ⟨sF, hDF, zF, hE⟩
        obtain ⟨y, ey, rfl⟩ := item_ref hj
        obtain ⟨q, eq, h1⟩ := paired_at pu ey
        have fm := filter_more (p := fun q : Str × Str => decide (q.2 ∉ lot)) eq
        have ll := List.length_filter_le (fun q : Str × Str => decide (q.2 ∉ lot)) (tb.uns.take j)
        rw [List.length_take] at ll
        refine ⟨y, _, rfl, SqT.of (sF _ _ h1), rfl, _, _, rfl, _, _, rfl, rfl, rfl, ?_⟩
        obtain ⟨o, dg, eo⟩ := (hl.same sF).get q.2
        refine ⟨_, rfl, _, rfl, l, o, rfl, dg, _, rfl, ?_⟩
        rw [eo]
        by_cases m : q.2 ∈ lot
        · rw [decide_eq_true m]
          refine iteF ⟨sF, hDF, zF, ?_⟩
          rw [fm, if_neg (by simp [m]), List.append_nil]
          exact hE
        · rw [decide_eq_false m]
          refine iteT ?_
          refine ⟨_, rfl, _, hE, by rw [List.length_map, List.length_map]; exact lt_size (m := 101) (by omega) (by decide), same_over sF nE0, (upd_ne DE).trans hDF, ?_, ?_⟩
          · intro c o h
            obtain ⟨h1, h2⟩ := fz_some h
            obtain ⟨_, h3⟩ := fz_some (zF c o h)
            refine fz_put h1 ?_
            rw [upd_ne (ne_of_none h2 nE)]
            exact h3
          · rw [upd_same, fm, if_pos (by simp [m]), List.map_append, List.map_append]
            rfl
      · rintro F ⟨sF, hDF, zF, hE⟩
        rw [List.length_map, List.take_of_length_le (by rw [pu.length]; exact Nat.le_refl _)] at hE
        have ll := List.length_filter_le (fun q : Str × Str => decide (q.2 ∉ lot)) tb.uns
        refine ⟨s1, E, _, _, rfl, rfl, sF _ _ e2, hE, by rw [List.length_map, List.length_map, List.length_map]; exact Nat.le_of_lt (small1000 (by omega)), fun q nq => ?_⟩
        refine ⟨(show 2 ≤ sizeLine by decide), fun q2 nq2 => ?_⟩
        have Dq : D ≠ q := ne_of_none hDF nq
        have hDF1 := (upd_ne (H := F) (o := .lst (tb.sure.map V.str ++ ((tb.uns.filter fun q => decide (q.2 ∉ lot)).map (·.1)).map V.str)) Dq).trans hDF
        have Dq2 : D ≠ q2 := ne_of_none hDF1 nq2
        have qq2 : q ≠ q2 := fun z => by
          rw [← z, upd_same] at nq2
          cases nq2
        have nq20 : F q2 = none := by
          rw [upd_ne qq2.symm] at nq2
          exact nq2
        refine ⟨_, (upd_ne Dq2).trans hDF1, by rw [List.length_map, phl]; exact lt_size (m := 101) (by omega) (by decide), same_over (same_over (same_over sF (free_of sF nq)) (free_of sF nq20)) nD, hs ++ [q2], by rw [upd_same, List.map_append]; rfl, ?_⟩
        rw [List.take_succ, et]
        have sm : ∀ {o1 o2 o3 : HO}, Same (Fz [D] G) (Fz [D] (upd (upd (upd F q o1) q2 o2) D o3)) := fun {o1 o2 o3} => by
          refine zF.trans (fz_at (fz_new (fz_new (Same.refl _) nq) ?_) (by simp))
          rw [upd_ne qq2.symm]
          exact nq20
        refine paired_snoc (L2.Paired.mapP ph fun a t ⟨p, h1, h2⟩ => ⟨p, sm _ _ h1, sm _ _ h2⟩) ⟨q, fz_put (by simp [Dq2.symm]) (by rw [upd_ne Dq2.symm]; exact upd_same), fz_put (by simp [Dq.symm]) ?_⟩
        rw [upd_ne Dq.symm, upd_ne qq2, upd_same]
        unfold hear
        rw [List.map_append]
    · rintro G ⟨sG, hs, hD, ph⟩
      rw [List.length_map, List.take_of_length_le (by omega)] at ph
      refine k D hs G hD (L2.Paired.mapP ph fun a t ⟨q, h1, h2⟩ => ⟨q, fz_less _ _ h1, fz_less _ _ h2⟩) sG
end
end My
namespace My
open PySem PySem.Spec PyProof.Rows L2
open GxR (TabB TabG Tabbed)
theorem Gr.same {ps : List Addr} {H H1 H2 : Hp} (g : Gr ps H H1) (s : Same H1 H2) : Gr ps H H2 :=
  ⟨fun p hp => by
    obtain ⟨xs, y, r⟩ := g.tb p hp
    exact ⟨xs, s _ _ y, r⟩, fun c o n e => s _ _ (g.keep c o n e)⟩
theorem any_range {α : Type} (f : α → Bool) (xs : List α) : ((List.range xs.length).any fun i => (xs[i]?).elim false f) = xs.any f := by
  rw [Bool.eq_iff_iff, List.any_eq_true, List.any_eq_true]
  constructor
  · intro ⟨j, hj, q⟩
    have lt := List.mem_range.mp hj
    rw [List.getElem?_eq_getElem lt] at q
    exact ⟨_, List.getElem_mem lt, q⟩
  · intro ⟨kp, hk, q⟩
    obtain ⟨j, lt, rfl⟩ := List.getElem_of_mem hk
    refine ⟨j, List.mem_range.mpr lt, ?_⟩
    rw [List.getElem?_eq_getElem lt]
    exact q
def spIs (C : Cd) : Sp := fun vs H Q _ => ∃ (a l : Addr) (r : Br) (lot : List Str), vs = [.ref a, .ref l] ∧ BrAt H a r ∧ DKeys H l lot ∧ r.ts.length ≤ 3 ∧ (∀ t ∈ r.ts, t.sure.length ≤ 8 ∧ t.uns.length ≤ 8) ∧ Tbs C.tabs H ∧
  ∀ H', Gr C.tabs H H' → Q (.bl (brB lot r)) H'
theorem BrAt.std {H H' : Hp} (s : Std H H') {a : Addr} {r : Br} (h : BrAt H a r) : BrAt H' a r := by
  obtain ⟨b, t, ts, h1, h2, h3, h4⟩ := h
  exact ⟨b, t, ts, s _ _ h1 (fun ps z => by cases z), s _ _ h2 (fun ps z => by cases z), s _ _ h3 (fun ps z => by cases z), L2.Paired.mapP h4 fun _ _ q => q.std s⟩
theorem DKeys.std {H H' : Hp} (s : Std H H') {d : Addr} {ws : List Str} (h : DKeys H d ws) : DKeys H' d ws := by
  obtain ⟨kvs, e, k⟩ := h
  exact ⟨kvs, s _ _ e (fun ps z => by cases z), k⟩
theorem brOf_sz {z u : Str} {bd : List Tm} (ok : BdOk bd) : (brOf z u bd).ts.length ≤ 3 ∧ ∀ t ∈ (brOf z u bd).ts, t.sure.length ≤ 8 ∧ t.uns.length ≤ 8 := by
  refine ⟨by unfold brOf; rw [List.length_map]; exact ok.t3, fun t ht => ?_⟩
  obtain ⟨t, hm, rfl⟩ := List.mem_map.mp ht
  have k8 := (ok.ok t hm).k8
  have sl := flat_len (f := sureK z) (m := 1) (ks := t.ks) fun k _ => by unfold sureK; split <;> simp
  have vl := flat_len (f := unsK z u) (m := 1) (ks := t.ks) fun k _ => by
    unfold unsK
    split
    · simp
    · split
      · split <;> simp
      · simp
  unfold tbOf
  exact ⟨by show (t.ks.flatMap (sureK z)).length ≤ 8; omega, by show (t.ks.flatMap (unsK z u)).length ≤ 8; omega⟩
section
variable {P : Program} {w : World} {K : PySem.W.Frag} {mg : Str → Option Value} {base : Heap} {A : Ad} {C : Cd}
theorem ok_is_barred (T : Txt K mg A) (TB : TBs base mg C A) : FnOk P w K mg base CX0 2 A.f_is_barred A.d_is_barred P_is_barred (spIs C) := by
  refine okC T.F_is_barred sc_is_barred (fun vs H Q E h => ?_) (fun cdv A' outer s H vs Q E hcd hr h => ?_)
  · obtain ⟨a, l, r, lot, rfl, _⟩ := h
    rfl
  · obtain ⟨a, l, r, lot, rfl, hr0, hl, t3, t8, tb, k⟩ := h
    have hr0' := hr0
    obtain ⟨b, t, ts, ha, hb, ht, pt⟩ := hr0
    refine ⟨_, (pss_cons (ps_if (pt_val (pe_anyG rfl hr sc_is_barred.nd (by rfl) T.n_any (TB.is_barred) (hcd.trans TB.c_is_barred) (blkOk_by (own := [("other", 2)]) (N := N_is_barred) (sc := defScope s_is_barred) (by decide +kernel)) ⟨rfl, rfl, by decide +kernel, rfl⟩ (pi_listK (K := K) rfl (pe_ix (ix_tupK (K := K) rfl) (pv 0) pe_int (fun _ _ => rfl))) (fun _ => rfl) (fun _ _ _ _ _ _ => (pg_name (i := 2) sc_is_barred.nd rfl (Or.inl rfl))) (fun _ _ _ _ _ _ => by exact (pe_cmp (pc_din (hu_of (room_G (hr.mono (Nat.le_refl _)))) (pv 2) (pv 1)) rfl))))
      (pss_one (ps_ret pe_bl))
      pss_nil)
    (pss_one (ps_ret (pe_anyG (g := (gTup K 2 (gCons (gName 3) (gCons (gName 4) gNil)))) rfl hr sc_is_barred.nd (by rfl) T.n_any (TB.is_barred) (hcd.trans TB.c_is_barred) (blkOk_by (own := [("least", 3), ("told", 4)]) (N := N_is_barred) (sc := defScope s_is_barred) (by decide +kernel)) ⟨rfl, rfl, by decide +kernel, rfl⟩ (pi_listK (K := K) rfl (pe_call (ok_hearers T) (hr.mono (by decide)) rfl T.g_hearers T.F_hearers.kp T.b_hearers .nil pass0 (pa_cons (pv 0) (pa_cons (pv 1) pa_nil)))) (fun _ => rfl) (fun _ _ _ _ _ _ => (pg_tup rfl (pgs_cons (pg_name (i := 3) sc_is_barred.nd rfl (Or.inl rfl)) (pgs_cons (pg_name (i := 4) sc_is_barred.nd rfl (Or.inl rfl)) pgs_nil)))) (fun _ _ _ _ _ _ => by exact (pe_cmpR op_lt (pe_callB (len_seqK (K := K) rfl) (by rfl) T.n_len PySem.boot_len (pa_cons (pv 4) pa_nil)) (pv 3) (nomark _))))))), ?_⟩
    refine ⟨_, rfl, a, _, _, _, rfl, rfl, SqT.of ha, rfl, b, rfl, ⟨_, SqL.of hb⟩, tb C.pb (by simp), fun H2 t2 => ?_⟩
    have std : ∀ {G : Hp} {c : Addr} {xs : List V}, Gr C.tabs H G → H c = some (.lst xs) → G c = some (.lst xs) := fun {G c xs} g e => g.std tb c _ e fun ps q => by cases q
    refine ⟨r.beh.length, fun i => (r.beh[i]?).elim false fun y => decide (y ∈ lot), fun _ G => Gr C.tabs H G, (Gr.refl tb).tabbed (by simp) t2,
      fun i G lt gG => ⟨⟨_, V.str r.beh[i], SqL.of (std gG hb), map_at (List.getElem?_eq_getElem lt)⟩, fun y G' yl => ?_⟩, fun G gG => ⟨_, SqL.of (std gG hb), by rw [List.length_map]; exact Nat.le_refl _⟩, fun _ G _ gG => ?_⟩
    · obtain ⟨rfl, at_⟩ := yl
      obtain ⟨y', hy, rfl⟩ := item_str (at_ _ (SqL.of (std gG hb)))
      obtain ⟨o, dg, eo⟩ := (hl.std (gG.std tb)).get y'
      refine ⟨rfl, _, rfl, _, rfl, l, o, rfl, dg, ?_, gG⟩
      rw [eo]
      show _ = V.bl ((r.beh[i]?).elim false fun y => decide (y ∈ lot))
      rw [hy]
      rfl
    · refine ⟨r.beh.any fun y => decide (y ∈ lot), congrArg V.bl (any_range _ _), ?_⟩
      cases hb1 : r.beh.any fun y => decide (y ∈ lot) with
      | true =>
        refine iteT ?_
        have q := k G gG
        unfold brB at q
        rw [hb1, Bool.true_or] at q
        exact q
      | false =>
        refine iteF ?_
        have q0 : ∀ H', Gr C.tabs H H' → Q (.bl (r.ts.any fun t => decide (((hear lot t).length : Int) < t.least))) H' := fun H' g => by
          have q := k H' g
          unfold brB at q
          rw [hb1, Bool.false_or] at q
          exact q
        refine ⟨_, rfl, _, rfl, a, l, r, lot, rfl, hr0'.std (gG.std tb), hl.std (gG.std tb), t3, t8, fun p hs H3 hp ph s3 => ?_⟩
        have g3 := gG.same s3
        have hl3 := ph.length
        refine ⟨p, rfl, ⟨_, SqL.of hp⟩, g3.tb C.pb (by simp), fun H4 t4 => ?_⟩
        have std3 : ∀ {F : Hp} {c : Addr} {o : HO}, Gr C.tabs H3 F → H3 c = some o → (∀ ps, o ≠ .tbl ps) → F c = some o := fun {F c o} g e n => g.std g3.tb c _ e n
        refine ⟨r.ts.length, fun i => (r.ts[i]?).elim false fun t => decide (((hear lot t).length : Int) < t.least), fun _ F => Gr C.tabs H3 F, (Gr.refl g3.tb).tabbed (by simp) t4,
          fun i F lt gF => ⟨⟨_, V.ref hs[i], SqL.of (std3 gF hp fun ps z => by cases z), map_at (List.getElem?_eq_getElem (by omega))⟩, fun y F' yl => ?_⟩, fun F gF => ⟨_, SqL.of (std3 gF hp fun ps z => by cases z), by rw [List.length_map]; omega⟩, fun _ F _ gF => ?_⟩
        · obtain ⟨rfl, at_⟩ := yl
          obtain ⟨x, ex, rfl⟩ := item_ref (at_ _ (SqL.of (std3 gF hp fun ps z => by cases z)))
          obtain ⟨tb1, et, q, e1, e2⟩ := paired_at ph ex
          refine ⟨x, _, rfl, SqT.of (std3 gF e1 fun ps z => by cases z), rfl, _, _, rfl, _, _, rfl, rfl, rfl, ?_⟩
          refine ⟨_, rfl, q, _, rfl, .inl (SqL.of (std3 gF e2 fun ps z => by cases z)), _, rfl, _, _, rfl, rfl, ?_, gF⟩
          show _ = V.bl ((r.ts[i]?).elim false fun t => decide (((hear lot t).length : Int) < t.least))
          rw [et, List.length_map]
          rfl
        · have q := q0 F (g3.trans gF)
          rw [← any_range] at q
          exact q
end
end My
namespace My
open PySem PySem.Spec PyProof.Rows L2
open GxR (TabB TabG Tabbed)
/-- all but dicts stands -/
def Smd (A B : Hp) : Prop := ∀ c o, A c = some o → (∀ kvs, o ≠ .dK kvs) → B c = some o
theorem Smd.same {A B : Hp} (s : Same A B) : Smd A B := fun c o h _ => s c o h
theorem Smd.put {A : Hp} {d : Addr} {kvs : List (Key × V)} {o : HO} (h : A d = some (.dK kvs)) : Smd A (upd A d o) := fun c u e n => by
  have ne : c ≠ d := fun z => by
    rw [z, h] at e
    exact n kvs (Option.some.inj e).symm
  rw [upd_ne ne]
  exact e
theorem Smd.trans {A B D : Hp} (x : Smd A B) (y : Smd B D) : Smd A D := fun c o h n => y c o (x c o h n) n
theorem UnAt.smd {H H' : Hp} (s : Smd H H') {a : Addr} {q : Str × Str} (h : UnAt H a q) : UnAt H' a q := s _ _ h fun ps z => by cases z
theorem TbAt.smd {H H' : Hp} (s : Smd H H') {a : Addr} {t : Tb} (h : TbAt H a t) : TbAt H' a t := by
  obtain ⟨p, u, us, h1, h2, h3, h4⟩ := h
  exact ⟨p, u, us, s _ _ h1 (fun ps z => by cases z), s _ _ h2 (fun ps z => by cases z), s _ _ h3 (fun ps z => by cases z), L2.Paired.mapP h4 fun _ _ q => q.smd s⟩
theorem BrAt.smd {H H' : Hp} (s : Smd H H') {a : Addr} {r : Br} (h : BrAt H a r) : BrAt H' a r := by
  obtain ⟨b, t, ts, h1, h2, h3, h4⟩ := h
  exact ⟨b, t, ts, s _ _ h1 (fun ps z => by cases z), s _ _ h2 (fun ps z => by cases z), s _ _ h3 (fun ps z => by cases z), L2.Paired.mapP h4 fun _ _ q => q.smd s⟩
/-- the bars of the things of ws -/
def BarsIn (H : Hp) (b : Addr) (ws : List Str) (bd : List Tm) : Prop := ∃ kvs : List (Key × V), H b = some (.dK kvs) ∧ ∀ z ∈ ws, ∃ a, valV kvs (kS z) = some (.ref a) ∧ BrAt H a (brOf z Str.empty bd)
theorem BarsIn.std {H H' : Hp} (s : Std H H') {b : Addr} {ws : List Str} {bd : List Tm} (h : BarsIn H b ws bd) : BarsIn H' b ws bd := by
  obtain ⟨kvs, e, k⟩ := h
  refine ⟨kvs, s _ _ e (fun ps z => by cases z), fun z hz => ?_⟩
  obtain ⟨a, h1, h2⟩ := k z hz
  exact ⟨a, h1, h2.std s⟩
theorem BarsIn.same {H H' : Hp} (s : Same H H') {b : Addr} {ws : List Str} {bd : List Tm} (h : BarsIn H b ws bd) : BarsIn H' b ws bd := h.std fun c o e _ => s c o e
theorem BarsIn.get {H : Hp} {b : Addr} {ws : List Str} {bd : List Tm} (h : BarsIn H b ws bd) {z : Str} (m : z ∈ ws) : ∃ a, DGet H b (.str z) (some (.ref a)) ∧ BrAt H a (brOf z Str.empty bd) := by
  obtain ⟨kvs, e, k⟩ := h
  obtain ⟨a, h1, h2⟩ := k z m
  refine ⟨a, ?_, h2⟩
  rw [← h1]
  exact DGet.k (k := kS z) e
def spBars : Sp := fun vs H Q _ => ∃ (a l : Addr) (bd : List Tm) (ws : List Str), vs = [.ref a, .ref l] ∧ BdAt H a bd ∧ BdOk bd ∧ BdF bd ∧ H l = some (.lst (ws.map V.str)) ∧ ws.length ≤ 1000 ∧
  ∀ (p : Addr) (H' : Hp), H p = none → Same H H' → BarsIn H' p ws bd → Q (.ref p) H'
section
variable {P : Program} {w : World} {K : PySem.W.Frag} {mg : Str → Option Value} {base : Heap} {A : Ad} {C : Cd}
theorem ok_bars_of (T : Txt K mg A) : FnOk P w K mg base CX0 2 A.f_bars_of A.d_bars_of P_bars_of spBars := by
  obtain ⟨ds, rds, bbs⟩ := T.F_bar_of.binds1 (ps := P_bar_of) 2 0 (by simp) rfl fun _ _ _ _ _ _ _ us its hl hi => match us, its, hl, hi with
    | [_, _], [_], _, _ => ⟨_, rfl, rfl⟩
  refine T.F_bars_of.ok sc_bars_of (fun vs H Q E h => ?_) (fun cdv A' outer s H vs Q E hr h => ?_)
  · obtain ⟨a, l, bd, ws, rfl, _⟩ := h
    rfl
  · obtain ⟨a, l, bd, ws, rfl, hb, ok, bf, hl, l288, k⟩ := h
    refine ⟨_, (pss_one (ps_ret (pe_dc (own := [("thing", 2)]) (tt := tYes) (g := (gName 2)) rfl sc_bars_of.nd (pi_listK (K := K) rfl (pv 1)) (blkOk_by (own := [("thing", 2)]) (N := N_bars_of) (sc := defScope s_bars_of) (by decide +kernel)) (fun _ _ _ _ _ => (pg_name (i := 2) sc_bars_of.nd rfl (Or.inl rfl))) (fun _ _ _ _ _ => pts_nil) (fun _ _ _ _ _ => by exact (pv 2)) (fun _ _ _ _ _ => by exact (pe_call (ok_bar_of T) (hr.mono (by decide)) rfl T.g_bar_of T.F_bar_of.kp bbs rds pass0 (pa_cons (pv 0) (pa_cons (pv 2) pa_nil))))))), ?_⟩
    refine ⟨_, rfl, l, rfl, ⟨_, SqL.of hl⟩, fun D nD => ?_⟩
    refine dc_it (walk_list (K := K) (a := l) (xs := ws.map V.str)) (fun i G => Same H G ∧ ∃ kvs : List (Key × V), G D = some (.dK kvs) ∧ kvs.length ≤ i ∧ ∀ z ∈ ws.take i, ∃ a, valV kvs (kS z) = some (.ref a) ∧ BrAt G a (brOf z Str.empty bd))
      ⟨same_new nD, [], upd_same, Nat.le_refl _, fun z h => by simp at h⟩ (fun i G _ z => SqL.of (z.1 _ _ hl)) ?_ ?_
    · rintro i x G G' hi ⟨sG, kvs, hD, kl, kz⟩ ⟨rfl, hx⟩
      obtain ⟨z, hz, rfl⟩ := item_str hx
      refine ⟨rfl, ?_⟩
      refine ⟨_, rfl, _, rfl, _, rfl, a, z, Str.empty, bd, rfl, hb.same sG, ok, bf, fun p H1 s1 hp => ?_⟩
      have hD1 := s1 _ _ hD
      rw [List.length_map] at hi
      have l1 := length_putK kvs (kS z) (.ref p)
      refine ⟨kvs, kS z, rfl, hD1, by rw [sizeLine_eq]; omega, ?_, _, upd_same, by omega, fun y hy => ?_⟩
      · intro c o e
        have ne : c ≠ D := ne_of_none e nD
        rw [upd_ne ne]
        exact s1 _ _ (sG _ _ e)
      · have sm : Smd H1 (upd H1 D (.dK (putK kvs (kS z) (.ref p)))) := Smd.put hD1
        rw [valV_put]
        by_cases e : kS y = kS z
        · rw [if_pos e]
          have e1 : y = z := Sum.inr.inj e
          subst e1
          exact ⟨p, rfl, hp.smd sm⟩
        · rw [if_neg e]
          rw [List.take_succ, hz] at hy
          rcases List.mem_append.mp hy with h | h
          · obtain ⟨a, h1, h2⟩ := kz y h
            exact ⟨a, h1, (h2.smd (Smd.same s1)).smd sm⟩
          · exact absurd (congrArg kS (List.mem_singleton.mp h)) e
    · rintro G ⟨sG, kvs, hD, kl, kz⟩
      rw [List.length_map, List.take_of_length_le (Nat.le_refl _)] at kz
      exact k D G nD sG ⟨kvs, hD, kz⟩
end
end My
namespace My
open PySem PySem.Spec PyProof.Rows L2
open GxR (TabB TabG Tabbed)
def spFree (C : Cd) : Sp := fun vs H Q _ => ∃ (b l h : Addr) (bd : List Tm) (us ws hs : List Str), vs = [.ref b, .ref l, .ref h] ∧ BarsIn H b us bd ∧ BdOk bd ∧ BdF bd ∧ H l = some (.lst (ws.map V.str)) ∧ H h = some (.lst (hs.map V.str)) ∧
  (∀ z ∈ ws, z ∈ us) ∧ ws.length ≤ 1000 ∧ hs.length ≤ 1000 ∧ Tbs C.tabs H ∧
  ∀ (p : Addr) (H' : Hp), H p = none → H' p = some (.lst ((ws.filter fun z => !barB (ws ++ hs) z bd).map V.str)) → Gr C.tabs H H' → Q (.ref p) H'
section
variable {P : Program} {w : World} {K : PySem.W.Frag} {mg : Str → Option Value} {base : Heap} {A : Ad} {C : Cd}
theorem ok_free_of (T : Txt K mg A) (TB : TBs base mg C A) : FnOk P w K mg base CX0 3 A.f_free_of A.d_free_of P_free_of (spFree C) := by
  refine T.F_free_of.ok sc_free_of (fun vs H Q E h => ?_) (fun cdv A' outer s H vs Q E hr h => ?_)
  · obtain ⟨b, l, h, bd, us, ws, hs, rfl, _⟩ := h
    rfl
  · obtain ⟨b, l, h, bd, us, ws, hs, rfl, hb, ok, bf, hl, hh, sub, l288, h288, tb, k⟩ := h
    refine ⟨_, (pss_cons (ps_set (i := 3) sc_free_of.nd rfl (Or.inr rfl) (pe_dc (own := [("thing", 4)]) (tt := tYes) (g := (gName 4)) rfl sc_free_of.nd (pi_listK (K := K) rfl (pe_lst (pa_starK (K := K) rfl (pv 1) (pa_starK (K := K) rfl (pv 2) pa_nil)))) (blkOk_by (own := [("thing", 4)]) (N := N_free_of) (sc := defScope s_free_of) (by decide +kernel)) (fun _ _ _ _ _ => (pg_name (i := 4) sc_free_of.nd rfl (Or.inl rfl))) (fun _ _ _ _ _ => pts_nil) (fun _ _ _ _ _ => by exact (pv 4)) (fun _ _ _ _ _ => by exact pe_bl)))
    (pss_one (ps_ret (pe_lc (own := [("thing", 4)]) (g := (gName 4)) rfl sc_free_of.nd (pi_listK (K := K) rfl (pv 1)) (blkOk_by (own := [("thing", 4)]) (N := N_free_of) (sc := defScope s_free_of) (by decide +kernel)) (fun _ _ _ _ _ => (pg_name (i := 4) sc_free_of.nd rfl (Or.inl rfl))) (fun _ _ _ _ _ => pts_one (pt_not (pt_val (pe_call (ok_is_barred T TB) (hr.mono (by decide)) rfl T.g_is_barred T.F_is_barred.kp T.b_is_barred .nil pass0 (pa_cons (pe_dget (hu_of hr) (pv 0) (pv 4) (fun _ _ => rfl)) (pa_cons (pv 3) pa_nil)))))) (fun _ _ _ _ _ => by exact (pv 4)))))), ?_⟩
    have e0 : ws.map V.str ++ (hs.map V.str ++ []) = (ws ++ hs).map V.str := by simp
    refine ⟨_, rfl, l, _, rfl, .inr (SqL.of hl), _, rfl, h, _, rfl, .inr (SqL.of hh), (by rw [e0, List.length_map, List.length_append, sizeLine_eq]; omega), fun q nq => ?_⟩
    rw [e0]
    have s0 := same_new (o := .lst ((ws ++ hs).map V.str)) nq
    refine ⟨q, rfl, ⟨_, SqL.of upd_same⟩, fun D nD => ?_⟩
    refine dc_it (walk_list (K := K) (a := q) (xs := (ws ++ hs).map V.str)) (fun i G => Same (upd H q (.lst ((ws ++ hs).map V.str))) G ∧ ∃ kvs : List (Key × V), G D = some (.dK kvs) ∧ KeysOf kvs ((ws ++ hs).take i))
      ⟨same_new nD, [], upd_same, KeysOf.nil⟩ (fun i G _ z => SqL.of (z.1 _ _ upd_same)) ?_ ?_
    · rintro i x G G' hi ⟨sG, kvs, hD, kk⟩ ⟨rfl, hx⟩
      obtain ⟨z, hz, rfl⟩ := item_str hx
      refine ⟨rfl, ?_⟩
      rw [List.length_map, List.length_append] at hi
      have k2 := kk.2
      rw [List.length_take, List.length_append] at k2
      refine ⟨_, rfl, kvs, kS z, rfl, hD, by rw [sizeLine_eq]; omega, ?_, _, upd_same, ?_⟩
      · intro c o e
        have ne : c ≠ D := ne_of_none e nD
        rw [upd_ne ne]
        exact sG _ _ e
      · rw [List.take_succ, hz]
        exact kk.put z _
    · rintro G ⟨sG, kvs, hD, kk⟩
      rw [List.length_map, List.take_of_length_le (Nat.le_refl _)] at kk
      have sHG := s0.trans sG
      have g0 := (Gr.refl tb).same sHG
      have hl0 := sHG _ _ hl
      have hb0 := hb.same sHG
      have dl : DKeys G D (ws ++ hs) := ⟨kvs, hD, kk.1⟩
      refine ⟨_, rfl, l, rfl, ⟨_, SqL.of hl0⟩, fun E nE => ?_⟩
      have std : ∀ {F : Hp}, Gr C.tabs G F → Std G F := fun g => g.std g0.tb
      refine lc_list (K := K) (a := l) (xs := ws.map V.str) (fun i F => Gr C.tabs G F ∧ F E = some (.lst (((ws.take i).filter fun z => !barB (ws ++ hs) z bd).map V.str)))
        ⟨(Gr.refl g0.tb).same (same_new nE), upd_same⟩ (fun i F _ z => SqL.of (std z.1 _ _ hl0 fun ps q => by cases q)) ?_ ?_
      · rintro i x F hi ⟨gF, hE⟩
        obtain ⟨z, hz, rfl⟩ := item_str hi
        have zm := List.mem_of_getElem? hz
        obtain ⟨a1, dg, br⟩ := (hb0.std (std gF)).get (sub z zm)
        obtain ⟨z1, z2⟩ := brOf_sz (z := z) (u := Str.empty) ok
        have il : i < ws.length := (List.getElem?_eq_some_iff.mp hz).1
        have fl := List.length_filter_le (fun z => !barB (ws ++ hs) z bd) (ws.take i)
        rw [List.length_take] at fl
        refine ⟨rfl, ?_⟩
        refine ⟨_, rfl, _, rfl, b, .ref a1, rfl, dg, _, rfl, a1, D, _, ws ++ hs, rfl, br, dl.std (std gF), z1, z2, gF.tb, fun F1 g1 => ?_⟩
        rw [brB_eq bf.f bf.nn]
        refine ⟨_, rfl, ?_⟩
        have hE1 := (g1.std gF.tb) _ _ hE fun ps q => by cases q
        have gF1 := gF.trans g1
        have ft : (ws.take (i + 1)).filter (fun z => !barB (ws ++ hs) z bd) = (ws.take i).filter (fun z => !barB (ws ++ hs) z bd) ++ if (!barB (ws ++ hs) z bd) = true then [z] else [] := filter_more hz
        cases hbz : barB (ws ++ hs) z bd with
        | true =>
          refine iteF ⟨gF1, ?_⟩
          rw [ft, hbz, if_neg (by simp), List.append_nil]
          exact hE1
        | false =>
          refine iteT ?_
          refine ⟨_, rfl, _, hE1, by rw [List.length_map, sizeLine_eq]; omega, gF1.over nE hE1 (fun xs q => by cases q), ?_⟩
          rw [upd_same, ft, hbz, if_pos (by simp), List.map_append]
          rfl
      · rintro F ⟨gF, hE⟩
        rw [List.length_map, List.take_of_length_le (Nat.le_refl _)] at hE
        exact k E F (free_of sHG nE) hE (g0.trans gF)
end
end My
namespace My
open PySem PySem.Spec PyProof.Rows L2
open GxR (TabB TabG Tabbed)
def spHearL : Sp := fun vs H Q _ => ∃ (a l : Addr) (r : Br) (lot : List Str), vs = [.ref a, .ref l] ∧ BrAt H a r ∧ H l = some (.lst (lot.map V.str)) ∧ r.ts.length ≤ 3 ∧ (∀ t ∈ r.ts, t.sure.length ≤ 8 ∧ t.uns.length ≤ 8) ∧
  ∀ (p : Addr) (hs : List Addr) (H' : Hp), H' p = some (.lst (hs.map V.ref)) → Paired (fun a t => ∃ q, H' a = some (.tup [.int t.least, .ref q]) ∧ H' q = some (.lst ((hear lot t).map V.str))) hs r.ts → Same H H' → Q (.ref p) H'
def spIsL (C : Cd) : Sp := fun vs H Q _ => ∃ (a l : Addr) (r : Br) (lot : List Str), vs = [.ref a, .ref l] ∧ BrAt H a r ∧ H l = some (.lst (lot.map V.str)) ∧ r.ts.length ≤ 3 ∧ (∀ t ∈ r.ts, t.sure.length ≤ 8 ∧ t.uns.length ≤ 8) ∧ Tbs C.tabs H ∧
  ∀ H', Gr C.tabs H H' → Q (.bl (brB lot r)) H'
def spBar (C : Cd) : Sp := fun vs H Q _ => ∃ (a l : Addr) (bd : List Tm) (lot : List Str) (z : Str), vs = [.ref a, .ref l, .str z] ∧ BdAt H a bd ∧ BdOk bd ∧ BdF bd ∧ H l = some (.lst (lot.map V.str)) ∧ Tbs C.tabs H ∧
  ∀ H', Gr C.tabs H H' → Q (.bl (barB lot z bd)) H'
section
variable {P : Program} {w : World} {K : PySem.W.Frag} {mg : Str → Option Value} {base : Heap} {A : Ad} {C : Cd}
theorem ok_hearersL (T : Txt K mg A) : FnOk P w K mg base CX0 1 A.f_hearers A.d_hearers P_hearers spHearL := by
  refine T.F_hearers.ok sc_hearers (fun vs H Q E h => ?_) (fun cdv A' outer s H vs Q E hr h => ?_)
  · obtain ⟨a, l, r, lot, rfl, _⟩ := h
    rfl
  · obtain ⟨a, l, r, lot, rfl, ⟨b, t, ts, ha, hb, ht, pt⟩, hl, t3, t8, k⟩ := h
    refine ⟨_, (pss_one (ps_ret (pe_lc (own := [("least", 2), ("sure", 3), ("unsure", 4)]) (tt := tYes) (g := (gTup K 3 (gCons (gName 2) (gCons (gName 3) (gCons (gName 4) gNil))))) rfl sc_hearers.nd (pi_listK (K := K) rfl (pe_ix (ix_tupK (K := K) rfl) (pv 0) pe_int (fun _ _ => rfl))) (blkOk_by (own := [("least", 2), ("sure", 3), ("unsure", 4)]) (N := N_hearers) (sc := defScope s_hearers) (by decide +kernel)) (fun _ _ _ _ _ => (pg_tup rfl (pgs_cons (pg_name (i := 2) sc_hearers.nd rfl (Or.inl rfl)) (pgs_cons (pg_name (i := 3) sc_hearers.nd rfl (Or.inl rfl)) (pgs_cons (pg_name (i := 4) sc_hearers.nd rfl (Or.inl rfl)) pgs_nil))))) (fun _ _ _ _ _ => pts_nil) (fun _ _ _ _ _ => by exact (pe_tup (pa_cons (pv 2) (pa_cons (pe_op op_cat (pv 3) (pe_lc (own := [("name", 5), ("eldest", 6)]) (g := (gTup K 2 (gCons (gName 5) (gCons (gName 6) gNil)))) rfl sc_hearers.nd (pi_listK (K := K) rfl (pv 4)) (blk2 (own := [("name", 5), ("eldest", 6)]) (N := N_hearers) (sc := { rsc (defBody s_hearers) with names := [(".0", .local), ("least", .local), ("sure", .local), ("unsure", .local), ("lot", .cell)] }) rfl rfl (by decide +kernel)) (fun _ _ _ _ _ => (pg_tup rfl (pgs_cons (pg_name (i := 5) sc_hearers.nd rfl (Or.inl rfl)) (pgs_cons (pg_name (i := 6) sc_hearers.nd rfl (Or.inl rfl)) pgs_nil)))) (fun _ _ _ _ _ => pts_one (pt_cmpR (notIn_seqK (K := K) rfl) (pv 6) (pv 1) (by rfl))) (fun _ _ _ _ _ => by exact (pv 5)))) pa_nil))))))), ?_⟩
    have tl := pt.length
    refine ⟨_, rfl, a, _, _, _, rfl, rfl, SqT.of ha, rfl, ?_⟩
    refine ⟨t, rfl, ⟨_, SqL.of ht⟩, fun D nD => ?_⟩
    refine lc_list (K := K) (a := t) (xs := ts.map V.ref) (fun i G => Same H G ∧ ∃ hs : List Addr, G D = some (.lst (hs.map V.ref)) ∧ Paired (fun a t => ∃ q, Fz [D] G a = some (.tup [.int t.least, .ref q]) ∧ Fz [D] G q = some (.lst ((hear lot t).map V.str))) hs (r.ts.take i))
      ⟨same_new nD, [], upd_same, .nil⟩ (fun i G _ z => SqL.of (z.1 _ _ ht)) ?_ ?_
    · rintro i x G hi ⟨sG, hs, hD, ph⟩
      obtain ⟨x, ex, rfl⟩ := item_ref hi
      obtain ⟨tb, et, s1, u1, us, e1, e2, e3, pu⟩ := paired_at pt ex
      have lt8 := t8 tb (List.mem_of_getElem? et)
      have phl := ph.length
      rw [List.length_take] at phl
      refine ⟨x, _, rfl, SqT.of (sG _ _ e1), rfl, _, _, rfl, _, _, rfl, _, _, rfl, rfl, rfl, ?_⟩
      refine ⟨_, rfl, _, rfl, _, rfl, u1, rfl, ⟨_, SqL.of (sG _ _ e3)⟩, fun E nE => ?_⟩
      have DE : D ≠ E := ne_of_none hD nE
      have nD0 : ∀ {c : Addr} {o : HO}, H c = some o → c ≠ D := fun h => ne_of_none h nD
      have nE0 := free_of sG nE
      refine lc_list (K := K) (a := u1) (xs := us.map V.ref) (fun j F => Same H F ∧ F D = some (.lst (hs.map V.ref)) ∧ Same (Fz [D] G) (Fz [D] F) ∧ F E = some (.lst ((((tb.uns.take j).filter fun q => decide (q.2 ∉ lot)).map (·.1)).map V.str)))
        ⟨sG.trans (same_new nE), (upd_ne DE).trans hD, fz_new (Same.refl _) nE, upd_same⟩ (fun j F _ z => SqL.of (z.1 _ _ e3)) ?_ ?_
      · rintro j y F hj ⟨sF, hDF, zF, hE⟩
        obtain ⟨y, ey, rfl⟩ := item_ref hj
        obtain ⟨q, eq, h1⟩ := paired_at pu ey
        have fm := filter_more (p := fun q : Str × Str => decide (q.2 ∉ lot)) eq
        have ll := List.length_filter_le (fun q : Str × Str => decide (q.2 ∉ lot)) (tb.uns.take j)
        rw [List.length_take] at ll
        refine ⟨y, _, rfl, SqT.of (sF _ _ h1), rfl, _, _, rfl, _, _, rfl, rfl, rfl, ?_⟩
        refine ⟨_, rfl, _, rfl, l, _, rfl, .inl (SqL.of (sF _ _ hl)), rfl, flat_strs _, _, rfl, ?_⟩
        rw [inV_strs]
        by_cases m : q.2 ∈ lot
        · rw [decide_eq_true m]
          refine iteF ⟨sF, hDF, zF, ?_⟩
          rw [fm, if_neg (by simp [m]), List.append_nil]
          exact hE
        · rw [decide_eq_false m]
          refine iteT ?_
          refine ⟨_, rfl, _, hE, by rw [List.length_map, List.length_map]; exact lt_size (m := 101) (by omega) (by decide), same_over sF nE0, (upd_ne DE).trans hDF, ?_, ?_⟩
          · intro c o h
            obtain ⟨h1, h2⟩ := fz_some h
            obtain ⟨_, h3⟩ := fz_some (zF c o h)
            refine fz_put h1 ?_
            rw [upd_ne (ne_of_none h2 nE)]
            exact h3
          · rw [upd_same, fm, if_pos (by simp [m]), List.map_append, List.map_append]
            rfl
      · rintro F ⟨sF, hDF, zF, hE⟩
        rw [List.length_map, List.take_of_length_le (by rw [pu.length]; exact Nat.le_refl _)] at hE
        have ll := List.length_filter_le (fun q : Str × Str => decide (q.2 ∉ lot)) tb.uns
        refine ⟨s1, E, _, _, rfl, rfl, sF _ _ e2, hE, by rw [List.length_map, List.length_map, List.length_map]; exact Nat.le_of_lt (small1000 (by omega)), fun q nq => ?_⟩
        refine ⟨(show 2 ≤ sizeLine by decide), fun q2 nq2 => ?_⟩
        have Dq : D ≠ q := ne_of_none hDF nq
        have hDF1 := (upd_ne (H := F) (o := .lst (tb.sure.map V.str ++ ((tb.uns.filter fun q => decide (q.2 ∉ lot)).map (·.1)).map V.str)) Dq).trans hDF
        have Dq2 : D ≠ q2 := ne_of_none hDF1 nq2
        have qq2 : q ≠ q2 := fun z => by
          rw [← z, upd_same] at nq2
          cases nq2
        have nq20 : F q2 = none := by
          rw [upd_ne qq2.symm] at nq2
          exact nq2
        refine ⟨_, (upd_ne Dq2).trans hDF1, by rw [List.length_map, phl]; exact lt_size (m := 101) (by omega) (by decide), same_over (same_over (same_over sF (free_of sF nq)) (free_of sF nq20)) nD, hs ++ [q2], by rw [upd_same, List.map_append]; rfl, ?_⟩
        rw [List.take_succ, et]
        have sm : ∀ {o1 o2 o3 : HO}, Same (Fz [D] G) (Fz [D] (upd (upd (upd F q o1) q2 o2) D o3)) := fun {o1 o2 o3} => by
          refine zF.trans (fz_at (fz_new (fz_new (Same.refl _) nq) ?_) (by simp))
          rw [upd_ne qq2.symm]
          exact nq20
        refine paired_snoc (L2.Paired.mapP ph fun a t ⟨p, h1, h2⟩ => ⟨p, sm _ _ h1, sm _ _ h2⟩) ⟨q, fz_put (by simp [Dq2.symm]) (by rw [upd_ne Dq2.symm]; exact upd_same), fz_put (by simp [Dq.symm]) ?_⟩
        rw [upd_ne Dq.symm, upd_ne qq2, upd_same]
        unfold hear
        rw [List.map_append]
    · rintro G ⟨sG, hs, hD, ph⟩
      rw [List.length_map, List.take_of_length_le (by omega)] at ph
      refine k D hs G hD (L2.Paired.mapP ph fun a t ⟨q, h1, h2⟩ => ⟨q, fz_less _ _ h1, fz_less _ _ h2⟩) sG
theorem ok_is_barredL (T : Txt K mg A) (TB : TBs base mg C A) : FnOk P w K mg base CX0 2 A.f_is_barred A.d_is_barred P_is_barred (spIsL C) := by
  refine okC T.F_is_barred sc_is_barred (fun vs H Q E h => ?_) (fun cdv A' outer s H vs Q E hcd hr h => ?_)
  · obtain ⟨a, l, r, lot, rfl, _⟩ := h
    rfl
  · obtain ⟨a, l, r, lot, rfl, hr0, hl, t3, t8, tb, k⟩ := h
    have hr0' := hr0
    obtain ⟨b, t, ts, ha, hb, ht, pt⟩ := hr0
    refine ⟨_, (pss_cons (ps_if (pt_val (pe_anyG rfl hr sc_is_barred.nd (by rfl) T.n_any (TB.is_barred) (hcd.trans TB.c_is_barred) (blkOk_by (own := [("other", 2)]) (N := N_is_barred) (sc := defScope s_is_barred) (by decide +kernel)) ⟨rfl, rfl, by decide +kernel, rfl⟩ (pi_listK (K := K) rfl (pe_ix (ix_tupK (K := K) rfl) (pv 0) pe_int (fun _ _ => rfl))) (fun _ => rfl) (fun _ _ _ _ _ _ => (pg_name (i := 2) sc_is_barred.nd rfl (Or.inl rfl))) (fun _ _ _ _ _ _ => by exact (pe_cmpR (in_seqK (K := K) rfl) (pv 2) (pv 1) (by rfl)))))
      (pss_one (ps_ret pe_bl))
      pss_nil)
    (pss_one (ps_ret (pe_anyG (g := (gTup K 2 (gCons (gName 3) (gCons (gName 4) gNil)))) rfl hr sc_is_barred.nd (by rfl) T.n_any (TB.is_barred) (hcd.trans TB.c_is_barred) (blkOk_by (own := [("least", 3), ("told", 4)]) (N := N_is_barred) (sc := defScope s_is_barred) (by decide +kernel)) ⟨rfl, rfl, by decide +kernel, rfl⟩ (pi_listK (K := K) rfl (pe_call (ok_hearersL T) (hr.mono (by decide)) rfl T.g_hearers T.F_hearers.kp T.b_hearers .nil pass0 (pa_cons (pv 0) (pa_cons (pv 1) pa_nil)))) (fun _ => rfl) (fun _ _ _ _ _ _ => (pg_tup rfl (pgs_cons (pg_name (i := 3) sc_is_barred.nd rfl (Or.inl rfl)) (pgs_cons (pg_name (i := 4) sc_is_barred.nd rfl (Or.inl rfl)) pgs_nil)))) (fun _ _ _ _ _ _ => by exact (pe_cmpR op_lt (pe_callB (len_seqK (K := K) rfl) (by rfl) T.n_len PySem.boot_len (pa_cons (pv 4) pa_nil)) (pv 3) (nomark _))))))), ?_⟩
    refine ⟨_, rfl, a, _, _, _, rfl, rfl, SqT.of ha, rfl, b, rfl, ⟨_, SqL.of hb⟩, tb C.pb (by simp), fun H2 t2 => ?_⟩
    have std : ∀ {G : Hp} {c : Addr} {xs : List V}, Gr C.tabs H G → H c = some (.lst xs) → G c = some (.lst xs) := fun {G c xs} g e => g.std tb c _ e fun ps q => by cases q
    refine ⟨r.beh.length, fun i => (r.beh[i]?).elim false fun y => decide (y ∈ lot), fun _ G => Gr C.tabs H G, (Gr.refl tb).tabbed (by simp) t2,
      fun i G lt gG => ⟨⟨_, V.str r.beh[i], SqL.of (std gG hb), map_at (List.getElem?_eq_getElem lt)⟩, fun y G' yl => ?_⟩, fun G gG => ⟨_, SqL.of (std gG hb), by rw [List.length_map]; exact Nat.le_refl _⟩, fun _ G _ gG => ?_⟩
    · obtain ⟨rfl, at_⟩ := yl
      obtain ⟨y', hy, rfl⟩ := item_str (at_ _ (SqL.of (std gG hb)))
      refine ⟨rfl, _, rfl, _, rfl, l, _, rfl, .inl (SqL.of (std gG hl)), rfl, flat_strs _, ?_, gG⟩
      rw [inV_strs]
      show _ = V.bl ((r.beh[i]?).elim false fun y => decide (y ∈ lot))
      rw [hy]
      rfl
    · refine ⟨r.beh.any fun y => decide (y ∈ lot), congrArg V.bl (any_range _ _), ?_⟩
      cases hb1 : r.beh.any fun y => decide (y ∈ lot) with
      | true =>
        refine iteT ?_
        have q := k G gG
        unfold brB at q
        rw [hb1, Bool.true_or] at q
        exact q
      | false =>
        refine iteF ?_
        have q0 : ∀ H', Gr C.tabs H H' → Q (.bl (r.ts.any fun t => decide (((hear lot t).length : Int) < t.least))) H' := fun H' g => by
          have q := k H' g
          unfold brB at q
          rw [hb1, Bool.false_or] at q
          exact q
        refine ⟨_, rfl, _, rfl, a, l, r, lot, rfl, hr0'.std (gG.std tb), std gG hl, t3, t8, fun p hs H3 hp ph s3 => ?_⟩
        have g3 := gG.same s3
        have hl3 := ph.length
        refine ⟨p, rfl, ⟨_, SqL.of hp⟩, g3.tb C.pb (by simp), fun H4 t4 => ?_⟩
        have std3 : ∀ {F : Hp} {c : Addr} {o : HO}, Gr C.tabs H3 F → H3 c = some o → (∀ ps, o ≠ .tbl ps) → F c = some o := fun {F c o} g e n => g.std g3.tb c _ e n
        refine ⟨r.ts.length, fun i => (r.ts[i]?).elim false fun t => decide (((hear lot t).length : Int) < t.least), fun _ F => Gr C.tabs H3 F, (Gr.refl g3.tb).tabbed (by simp) t4,
          fun i F lt gF => ⟨⟨_, V.ref hs[i], SqL.of (std3 gF hp fun ps z => by cases z), map_at (List.getElem?_eq_getElem (by omega))⟩, fun y F' yl => ?_⟩, fun F gF => ⟨_, SqL.of (std3 gF hp fun ps z => by cases z), by rw [List.length_map]; omega⟩, fun _ F _ gF => ?_⟩
        · obtain ⟨rfl, at_⟩ := yl
          obtain ⟨x, ex, rfl⟩ := item_ref (at_ _ (SqL.of (std3 gF hp fun ps z => by cases z)))
          obtain ⟨tb1, et, q, e1, e2⟩ := paired_at ph ex
          refine ⟨x, _, rfl, SqT.of (std3 gF e1 fun ps z => by cases z), rfl, _, _, rfl, _, _, rfl, rfl, rfl, ?_⟩
          refine ⟨_, rfl, q, _, rfl, .inl (SqL.of (std3 gF e2 fun ps z => by cases z)), _, rfl, _, _, rfl, rfl, ?_, gF⟩
          show _ = V.bl ((r.ts[i]?).elim false fun t => decide (((hear lot t).length : Int) < t.least))
          rw [et, List.length_map]
          rfl
        · have q := q0 F (g3.trans gF)
          rw [← any_range] at q
          exact q
theorem ok_barred (T : Txt K mg A) (TB : TBs base mg C A) : FnOk P w K mg base CX0 3 A.f_barred A.d_barred P_barred (spBar C) := by
  obtain ⟨ds, rds, bbs⟩ := T.F_bar_of.binds1 (ps := P_bar_of) 2 0 (by simp) rfl fun _ _ _ _ _ _ _ us its hl hi => match us, its, hl, hi with
    | [_, _], [_], _, _ => ⟨_, rfl, rfl⟩
  refine T.F_barred.ok sc_barred (fun vs H Q E h => ?_) (fun cdv A' outer s H vs Q E hr h => ?_)
  · obtain ⟨a, l, bd, lot, z, rfl, _⟩ := h
    rfl
  · obtain ⟨a, l, bd, lot, z, rfl, hb, ok, bf, hl, tb, k⟩ := h
    refine ⟨_, (pss_one (ps_ret (pe_call (ok_is_barredL T TB) (hr.mono (by decide)) rfl T.g_is_barred T.F_is_barred.kp T.b_is_barred .nil pass0 (pa_cons (pe_call (ok_bar_of T) (hr.mono (by decide)) rfl T.g_bar_of T.F_bar_of.kp bbs rds pass0 (pa_cons (pv 0) (pa_cons (pv 2) pa_nil))) (pa_cons (pv 1) pa_nil))))), ?_⟩
    obtain ⟨s1, s2⟩ := brOf_sz (z := z) (u := Str.empty) ok
    refine ⟨_, rfl, _, rfl, a, z, Str.empty, bd, rfl, hb, ok, bf, fun p H1 s1' hp => ?_⟩
    have tb1 : Tbs C.tabs H1 := (Gr.refl tb).same s1' |>.tb
    refine ⟨_, rfl, p, l, _, lot, rfl, hp, s1' _ _ hl, s1, s2, tb1, fun H2 g2 => ?_⟩
    rw [brB_eq bf.f bf.nn]
    exact k H2 (((Gr.refl tb).same s1').trans g2)
end
end My
namespace My
open PySem PySem.Spec PyProof.Rows L2
abbrev bB (bd : List Tm) : List Str → Str → Bool := fun ws z => barB ws z bd
end My
namespace My
open PySem PySem.Spec PyProof.Rows L2
theorem draw_mod {x c : Int} (h0 : 0 ≤ x) (h : 0 < c) : 0 ≤ x.fmod c ∧ x.fmod c < c := by
  rw [Int.fmod_eq_emod_of_nonneg x (by omega)]
  exact ⟨Int.emod_nonneg x (by omega), Int.emod_lt_of_pos x h⟩
theorem mod_pos {x c : Int} (h : 0 < c) : 0 ≤ x.fmod c ∧ x.fmod c < c := by
  rw [Int.fmod_eq_emod_of_nonneg x (by omega)]
  exact ⟨Int.emod_nonneg x (by omega), Int.emod_lt_of_pos x h⟩
theorem draw_div {x c : Int} (h0 : 0 ≤ x) (h : 0 < c) : 0 ≤ x.fdiv c := by
  rw [Int.fdiv_eq_ediv_of_nonneg x (by omega)]
  exact Int.ediv_nonneg h0 (by omega)
/-- a jug: at most n dips out of it were mixed -/
def Jug (H : Hp) (j : Addr) (n : Nat) : Prop := ∃ p q c : Int, H j = some (.lst [.int p, .int q, .int c]) ∧ 0 ≤ p ∧ 0 ≤ q ∧ q < 2 ^ 130 ∧ 0 ≤ c ∧ c ≤ n
/-- all but j stands -/
def Ex1 (j : Addr) (H H' : Hp) : Prop := ∀ c o, c ≠ j → H c = some o → H' c = some o
theorem Ex1.refl (j : Addr) (H : Hp) : Ex1 j H H := fun _ _ _ h => h
theorem Ex1.trans {j : Addr} {H H1 H2 : Hp} (a : Ex1 j H H1) (b : Ex1 j H1 H2) : Ex1 j H H2 := fun c o n h => b c o n (a c o n h)
theorem Ex1.at_ {j : Addr} {H : Hp} {o : HO} : Ex1 j H (upd H j o) := fun c u n h => by
  rw [upd_ne n]
  exact h
def spDip : Sp := fun vs H Q _ => ∃ (j : Addr) (size : Int) (n : Nat), vs = [.ref j, .int size] ∧ Jug H j n ∧ n ≤ 1000000000 ∧ 0 < size ∧ size < 1073741824 ∧
  ∀ (r : Int) (H' : Hp), 0 ≤ r → r < size → Jug H' j (n + 1) → Ex1 j H H' → Q (.int r) H'
theorem bits_le {i : Int} {k : Nat} (h0 : 0 ≤ i) (h : i < 2 ^ k) (hk : 1 ≤ k) : Builtin.Int.intBits i ≤ k := by
  unfold Builtin.Int.intBits
  split
  · omega
  · rename_i z
    have lt : i.natAbs < 2 ^ k := by
      have e : ((i.natAbs : Nat) : Int) = i := Int.natAbs_of_nonneg h0
      have q : ((i.natAbs : Nat) : Int) < ((2 ^ k : Nat) : Int) := by
        rw [e]
        simpa using h
      exact Int.ofNat_lt.mp q
    have q : i.natAbs.log2 < k := PySem.Flt.log2_lt_of (by first | exact fun y => z (by omega) | omega) lt
    omega
section
variable {P : Program} {w : World} {K : PySem.W.Frag} {mg : Str → Option Value} {base : Heap} {A : Ad}
theorem ok_dip (T : Txt K mg A) : FnOk P w K mg base CX0 1 A.f_dip A.d_dip P_dip spDip := by
  refine T.F_dip.ok sc_dip (fun vs H Q E h => ?_) (fun cdv A' outer s H vs Q E hr h => ?_)
  · obtain ⟨j, c, n, rfl, _⟩ := h
    rfl
  · obtain ⟨j, size, n, rfl, ⟨p, q, c, hj, p0, q0, q1, c0, c1⟩, n9, s0, s1, k⟩ := h
    refine ⟨_, (pss_cons (ps_if (pt_cmpR op_gt (pe_ix (ix_listK (K := K) rfl) (pv 0) pe_int (fun _ _ => rfl)) pe_int (nomark _))
      (pss_cons (ps_set (i := 2) sc_dip.nd rfl (Or.inl rfl) (pe_op op_modN (pe_ix (ix_listK (K := K) rfl) (pv 0) pe_int (fun _ _ => rfl)) (pv 1)))
      (pss_cons (ps_asg (pe_op op_fdivN (pe_ix (ix_listK (K := K) rfl) (pv 0) pe_int (fun _ _ => rfl)) (pv 1)) (pg_sub (pv 0) pe_int set_list))
      (pss_one (ps_ret (pv 2)))))
      pss_nil)
    (pss_cons (ps_asg (pe_op op_add (pe_ix (ix_listK (K := K) rfl) (pv 0) pe_int (fun _ _ => rfl)) pe_int) (pg_sub (pv 0) pe_int set_list))
    (pss_cons (ps_set (i := 3) sc_dip.nd rfl (Or.inl rfl) (pe_op op_modN (pe_op op_powW (pe_op op_add (pe_ix (ix_listK (K := K) rfl) (pv 0) pe_int (fun _ _ => rfl)) (pe_op op_mul pe_int (pe_ix (ix_listK (K := K) rfl) (pv 0) pe_int (fun _ _ => rfl)))) pe_int) (pe_op op_add (pe_op op_powW pe_int pe_int) pe_int)))
    (pss_cons (ps_set (i := 3) sc_dip.nd rfl (Or.inl rfl) (pe_op op_modN (pe_op op_powW (pe_op op_add (pv 3) (pe_op op_mul pe_int (pe_ix (ix_listK (K := K) rfl) (pv 0) pe_int (fun _ _ => rfl)))) pe_int) (pe_op op_add (pe_op op_powW pe_int pe_int) pe_int)))
    (pss_one (ps_ret (pe_op op_modN (pe_op op_fdivN (pv 3) pe_int) (pv 1)))))))), ?_⟩
    refine ⟨_, rfl, j, _, _, _, rfl, rfl, SqL.of hj, rfl, _, _, rfl, rfl, _, rfl, ?_⟩
    by_cases pp : p > 0
    · rw [decide_eq_true pp]
      refine iteT ?_
      refine ⟨_, rfl, j, _, _, _, rfl, rfl, SqL.of hj, rfl, _, rfl, p, size, rfl, rfl, by omega, ?_⟩
      refine ⟨_, rfl, j, _, _, _, rfl, rfl, SqL.of hj, rfl, _, rfl, p, size, rfl, rfl, ⟨by omega, by omega⟩, ?_⟩
      refine ⟨_, rfl, _, _, _, _, rfl, rfl, hj, rfl, ?_⟩
      obtain ⟨r0, r1⟩ := draw_mod p0 s0
      exact ⟨_, rfl, k _ _ r0 r1 ⟨_, q, c, upd_same, draw_div p0 s0, q0, q1, c0, by omega⟩ Ex1.at_⟩
    · rw [decide_eq_false pp]
      refine iteF ?_
      refine ⟨_, rfl, j, _, _, _, rfl, rfl, SqL.of hj, rfl, _, _, rfl, rfl, _, rfl, _, _, _, _, rfl, rfl, hj, rfl, ?_⟩
      have hj2 : (upd H j (.lst ([V.int p, .int q, .int c].set 2 (.int (c + 1))))) j = some (.lst [V.int p, .int q, .int (c + 1)]) := upd_same
      have b130 : (2 : Int) ^ 130 = 1361129467683753853853498429727072845824 := by decide
      have b131 : (2 : Int) ^ 131 = 2722258935367507707706996859454145691648 := by decide
      rw [b130] at q1
      have fit3 : PowFit (q + 7368787 * (c + 1)) 3 := by
        have z := bits_le (i := q + 7368787 * (c + 1)) (k := 131) (by omega) (by rw [b131]; omega) (by decide)
        exact ⟨by decide, by omega⟩
      have t36 : PowFit 10 36 := ⟨by decide, by decide +kernel⟩
      have t38 : PowFit 10 38 := ⟨by decide, by decide +kernel⟩
      have v36 : (10 : Int) ^ (36 : Int).toNat + 67 = 1000000000000000000000000000000000067 := by decide +kernel
      have v38 : (10 : Int) ^ (38 : Int).toNat + 133 = 100000000000000000000000000000000000133 := by decide +kernel
      refine ⟨_, rfl, j, _, _, _, rfl, rfl, SqL.of hj2, rfl, _, rfl, j, _, _, _, rfl, rfl, SqL.of hj2, rfl, _, _, rfl, rfl, .inl ⟨by decide, by decide⟩, _, _, rfl, rfl, _, _, rfl, rfl, fit3, _, _, rfl, rfl, t36, _, _, rfl, rfl, _, _, rfl, rfl, (show (10 : Int) ^ (36 : Int).toNat + 67 ≠ 0 by rw [v36]; decide), ?_⟩
      obtain ⟨m0, m1⟩ := mod_pos (x := (q + 7368787 * (c + 1)) ^ (3 : Int).toNat) (c := (10 : Int) ^ (36 : Int).toNat + 67) (by rw [v36]; decide)
      have m1' : ((q + 7368787 * (c + 1)) ^ (3 : Int).toNat).fmod ((10 : Int) ^ (36 : Int).toNat + 67) < 1000000000000000000000000000000000067 := by
        rw [← v36]
        exact m1
      have fit5 : PowFit (((q + 7368787 * (c + 1)) ^ (3 : Int).toNat).fmod ((10 : Int) ^ (36 : Int).toNat + 67) + 15485863 * (c + 1)) 5 := by
        revert m0 m1'
        generalize ((q + 7368787 * (c + 1)) ^ (3 : Int).toNat).fmod ((10 : Int) ^ (36 : Int).toNat + 67) = mx
        intro m0 m1'
        have z := bits_le (i := mx + 15485863 * (c + 1)) (k := 131) (by omega) (by rw [b131]; omega) (by decide)
        exact ⟨by decide, by omega⟩
      refine ⟨_, rfl, _, rfl, j, _, _, _, rfl, rfl, SqL.of hj2, rfl, _, _, rfl, rfl, .inl ⟨by decide, by decide⟩, _, _, rfl, rfl, _, _, rfl, rfl, fit5, _, _, rfl, rfl, t38, _, _, rfl, rfl, _, _, rfl, rfl, (show (10 : Int) ^ (38 : Int).toNat + 133 ≠ 0 by rw [v38]; decide), ?_⟩
      obtain ⟨w0, w1⟩ := mod_pos (x := (((q + 7368787 * (c + 1)) ^ (3 : Int).toNat).fmod ((10 : Int) ^ (36 : Int).toNat + 67) + 15485863 * (c + 1)) ^ (5 : Int).toNat) (c := (10 : Int) ^ (38 : Int).toNat + 133) (by rw [v38]; decide)
      refine ⟨_, rfl, _, _, rfl, rfl, ⟨by decide, by decide⟩, _, rfl, _, size, rfl, rfl, by omega, ?_⟩
      obtain ⟨r0, r1⟩ := draw_mod (draw_div w0 (show (0 : Int) < 65536 by decide)) s0
      exact k _ _ r0 r1 ⟨p, q, c + 1, hj2, p0, q0, by rw [b130]; exact q1, by omega, by omega⟩ Ex1.at_
def spJug (K : PySem.W.Frag) : Sp := fun vs H Q _ => ∃ (a : Addr) (ns : List Int) (i : Nat), vs = [.ref a, .int i] ∧ SqL K H a (ns.map V.int) ∧ ns.length ≤ 63 ∧ i < 64 ∧
  ∀ (j : Addr) (H' : Hp), H j = none → Jug H' j 0 → Same H H' → Q (.ref j) H'
theorem ok_jug (T : Txt K mg A) : FnOk P w K mg base CX0 1 A.f_jug A.d_jug P_jug (spJug K) := by
  refine T.F_jug.ok sc_jug (fun vs H Q E h => ?_) (fun cdv A' outer s H vs Q E hr h => ?_)
  · obtain ⟨a, ns, i, rfl, _⟩ := h
    rfl
  · obtain ⟨a, ns, i, rfl, hS, n63, i64, k⟩ := h
    refine ⟨_, (pss_cons (ps_set (i := 2) sc_jug.nd rfl (Or.inl rfl) (pe_ifExp (pt_cmpR op_lt (pv 1) (pe_callB (len_seqK (K := K) rfl) (by rfl) T.n_len PySem.boot_len (pa_cons (pv 0) pa_nil)) (nomark _)) (pe_ix (ix_listK (K := K) rfl) (pv 0) (pv 1) (fun _ _ => rfl)) pe_int))
    (pss_one (ps_ret (pe_lst (pa_cons (pe_callB (call_max2 rfl) (by rfl) T.n_max (by decide +kernel) (pa_cons pe_int (pa_cons (pe_op op_sub (pv 2) (pe_op op_powW pe_int pe_int)) pa_nil))) (pa_cons (pe_op op_add (pe_op op_mul (pe_op op_modN (pv 2) (pe_op op_add (pe_op op_powW pe_int pe_int) pe_int)) pe_int) (pv 1)) (pa_cons pe_int pa_nil))))))), ?_⟩
    have t18 : PowFit 10 18 := ⟨by decide, by decide +kernel⟩
    have t34 : PowFit 10 34 := ⟨by decide, by decide +kernel⟩
    have v34 : (10 : Int) ^ (34 : Int).toNat + 193 = 10000000000000000000000000000000193 := by decide +kernel
    have b130 : (2 : Int) ^ 130 = 1361129467683753853853498429727072845824 := by decide
    refine ⟨_, rfl, _, rfl, a, _, rfl, .inl hS, _, _, rfl, rfl, _, rfl, ?_⟩
    refine join2 (fun v G => (∃ cell : Int, v = .int cell) ∧ G = H) ?_ (fun hq => ?_)
    · rintro v G ⟨⟨cell, rfl⟩, rfl⟩
      refine ⟨_, rfl, _, _, rfl, rfl, t18, _, _, rfl, rfl, _, _, rfl, _, rfl, _, _, rfl, rfl, t34, _, _, rfl, rfl, _, _, rfl, rfl, (show (10 : Int) ^ (34 : Int).toNat + 193 ≠ 0 by rw [v34]; decide), _, _, rfl, rfl, .inr ⟨by decide, by decide⟩, _, rfl, _, _, rfl, rfl, (show 3 ≤ sizeLine by decide), fun j nj => ?_⟩
      obtain ⟨m0, m1⟩ := mod_pos (x := cell) (c := (10 : Int) ^ (34 : Int).toNat + 193) (by rw [v34]; decide)
      have m1' : cell.fmod ((10 : Int) ^ (34 : Int).toNat + 193) < 10000000000000000000000000000000193 := by
        rw [← v34]
        exact m1
      refine k j _ nj ⟨_, _, 0, upd_same, ?_, ?_, ?_, by decide, by decide⟩ (same_new nj)
      · split <;> omega
      · omega
      · rw [b130]
        omega
    · by_cases lt : (i : Int) < ((ns.map V.int).length : Nat)
      · rw [decide_eq_true lt]
        refine iteT ?_
        have lt' : i < (ns.map V.int).length := by omega
        obtain ⟨z, hz, ez⟩ := item_int (List.getElem?_eq_getElem lt')
        refine ⟨_, rfl, _, rfl, a, _, _, _, rfl, rfl, hS, atI_nat (List.getElem?_eq_getElem lt'), hq _ _ ⟨⟨z, ez⟩, rfl⟩⟩
      · rw [decide_eq_false lt]
        exact iteF (hq _ _ ⟨⟨0, rfl⟩, rfl⟩)
end
end My
namespace My
open PySem PySem.Spec PyProof.Rows L2
theorem Jug.more {H : Hp} {j : Addr} {n m : Nat} (h : Jug H j n) (l : n ≤ m) : Jug H j m := by
  obtain ⟨p, q, c, e, p0, q0, q1, c0, c1⟩ := h
  exact ⟨p, q, c, e, p0, q0, q1, c0, by omega⟩
theorem Jug.put {H : Hp} {j d : Addr} {n : Nat} {o : HO} (h : Jug H j n) (ne : d ≠ j) : Jug (upd H d o) j n := by
  obtain ⟨p, q, c, e, r⟩ := h
  exact ⟨p, q, c, by rw [upd_ne ne.symm]; exact e, r⟩
theorem Jug.ne {H : Hp} {j d : Addr} {n : Nat} (h : Jug H j n) (f : H d = none) : d ≠ j := fun z => by
  obtain ⟨p, q, c, e, _⟩ := h
  rw [← z, f] at e
  cases e
theorem Ex1.over {j p : Addr} {H H' : Hp} {o : HO} (x : Ex1 j H H') (h : H p = none) : Ex1 j H (upd H' p o) := fun c u n e => by
  rw [upd_ne (ne_of_none e h)]
  exact x c u n e
theorem Ex1.free {j p : Addr} {H H' : Hp} (x : Ex1 j H H') (h : H' p = none) (n : p ≠ j) : H p = none := by
  cases q : H p with
  | none => rfl
  | some o =>
    have z := x p o n q
    rw [h] at z
    cases z
theorem sub_of {xs ys : List V} (h : ∃ rest, (ys ++ rest).Perm xs) : ∀ y ∈ ys, y ∈ xs := fun y hy => by
  obtain ⟨rest, p⟩ := h
  exact p.subset (List.mem_append.mpr (.inl hy))
/-- so many of them, each out of the list's own -/
def spPick (K : PySem.W.Frag) : Sp := fun vs H Q _ => ∃ (j a : Addr) (m n : Nat) (xs : List V), vs = [.ref j, .ref a, .int m] ∧ Jug H j n ∧ n + 200 ≤ 1000000000 ∧ SqL K H a xs ∧ m ≤ xs.length ∧ xs.length ≤ 200 ∧
  ∀ (p : Addr) (ys : List V) (H' : Hp), H p = none → H' p = some (.lst ys) → ys.length = m → (∃ rest, (ys ++ rest).Perm xs) → Jug H' j (n + 200) → Ex1 j H H' → Q (.ref p) H'
section
variable {P : Program} {w : World} {K : PySem.W.Frag} {mg : Str → Option Value} {base : Heap} {A : Ad}
theorem ok_picked (T : Txt K mg A) : FnOk P w K mg base CX0 2 A.f_picked A.d_picked P_picked (spPick K) := by
  refine T.F_picked.ok sc_picked (fun vs H Q E h => ?_) (fun cdv A' outer s H vs Q E hr h => ?_)
  · obtain ⟨j, a, m, n, xs, rfl, _⟩ := h
    rfl
  · obtain ⟨j, a, m, n, xs, rfl, hj, n9, ha, mx, x200, k⟩ := h
    refine ⟨_, (pss_cons (ps_set (i := 3) sc_picked.nd rfl (Or.inr rfl) (pe_callTy (list_ofK (K := K) rfl) (by rfl) T.n_list (by decide +kernel) (pa_cons (pv 1) pa_nil)))
    (pss_one (ps_ret (pe_lc (own := [("k", 4)]) (tt := tYes) (g := (gName 4)) rfl sc_picked.nd (pi_range1 (by rfl) T.n_range (pa_cons (pv 2) pa_nil)) (blkOk_by (own := [("k", 4)]) (N := N_picked) (sc := defScope s_picked) (by decide +kernel)) (fun _ _ _ _ _ => (pg_name (i := 4) sc_picked.nd rfl (Or.inl rfl))) (fun _ _ _ _ _ => pts_nil) (fun _ _ _ _ _ => by exact (pe_K (K := K) rfl (pe_bm PySem.F.plainAttrs_list PySem.F.slot_list_pop PySem.F.type_list_pop mt_popAt (by exact (pv 3)) (by exact (pa_cons (pe_call (ok_dip T) (hr.mono (by decide)) rfl T.g_dip T.F_dip.kp T.b_dip .nil pass0 (pa_cons (pv 0) (pa_cons (pe_callB (len_seqK (K := K) rfl) (by rfl) T.n_len PySem.boot_len (pa_cons (pv 3) pa_nil)) pa_nil))) pa_nil))))))))), ?_⟩
    refine ⟨_, rfl, a, xs, rfl, .inl ha, fun L nL => ?_⟩
    have Lj := hj.ne nL
    refine ⟨_, rfl, m, rfl, by omega, by omega, fun D nD => ?_⟩
    have hL0 : upd H L (.lst xs) L = some (.lst xs) := upd_same
    have LD : L ≠ D := ne_of_none hL0 nD
    have nD0 : H D = none := by
      rw [upd_ne LD.symm] at nD
      exact nD
    have Dj := hj.ne nD0
    refine lc_range (lo := 0) (n := (m : Int).toNat) (fun i G => Jug G j (n + i) ∧ Ex1 j H G ∧ ∃ rest ys : List V, G L = some (.lst rest) ∧ rest.length + i = xs.length ∧ (∀ y ∈ rest, y ∈ xs) ∧ G D = some (.lst ys) ∧ ys.length = i ∧ (ys ++ rest).Perm xs)
      ⟨(hj.put Lj).put Dj, ((Ex1.refl j H).over nL).over nD0, xs, [], by rw [upd_ne LD]; exact upd_same, rfl, fun y h => h, upd_same, rfl, List.Perm.refl _⟩ ?_ ?_
    · rintro i G hi ⟨jG, xG, rest, ys, hL, el, sub, hD, ey, suby⟩
      rw [Int.toNat_natCast] at hi
      refine ⟨rfl, ?_⟩
      refine ⟨_, rfl, .inl ⟨rfl, _, SqL.of hL⟩, _, rfl, _, rfl, L, _, rfl, .inl (SqL.of hL), j, _, n + i, rfl, jG, by omega, by omega, by omega, fun t G1 t0 t1 j1 x1 => ?_⟩
      obtain ⟨tn, rfl⟩ := Int.eq_ofNat_of_zero_le t0
      have tl : tn < rest.length := by omega
      have hL1 := x1 L _ Lj hL
      refine ⟨L, _, _, tn, _, rfl, rfl, hL1, by omega, by omega, seq_at tl, List.getElem?_eq_getElem tl, ?_⟩
      have mem := sub _ (List.getElem_mem tl)
      refine ⟨_, by rw [upd_ne LD.symm]; exact x1 D _ Dj hD, by rw [ey]; exact lt_size (m := 201) (by omega) (by decide), ?_⟩
      refine ⟨(j1.put Lj).put Dj, ((xG.trans x1).over nL).over nD0, rest.eraseIdx tn, ys ++ [rest[tn]], ?_, ?_, fun y hy => sub y (List.mem_of_mem_eraseIdx hy), upd_same, by rw [List.length_append, ey]; rfl, ?_⟩
      · rw [upd_ne LD]
        exact upd_same
      · rw [List.length_eraseIdx, if_pos tl]
        omega
      · rw [List.append_assoc]
        exact (List.Perm.append_left ys (pick_perm rest tn tl)).trans suby
    · rintro G ⟨jG, xG, rest, ys, hL, el, sub, hD, ey, suby⟩
      rw [Int.toNat_natCast] at ey jG
      exact k D ys G nD0 hD ey ⟨rest, suby⟩ (jG.more (by omega)) xG
end
end My
namespace My
open PySem PySem.Spec PyProof.Rows L2
theorem nx_of {f r b c σ H} (h : f σ H) : ({ nx := f, rt := r, bk := b, ct := c } : Ends).nx σ H := h
theorem to_nx {f r b c σ H} (h : f σ H) : tNext { nx := f, rt := r, bk := b, ct := c } σ H := h
theorem seq_mid {t1 t2 : TS} {D : Ends} {σ : L2.St} {H : Hp} (φ : L2.St → Hp → Prop) (h1 : ∀ N : L2.St → Hp → Prop, (∀ σ' H', φ σ' H' → N σ' H') → t1 { D with nx := N } σ H)
    (h2 : ∀ σ' H', φ σ' H' → t2 D σ' H') : tSeq t1 t2 D σ H := h1 (t2 D) h2
theorem tor_mid {t u : TT} {σ : L2.St} {H : Hp} {Q : Bool → Hp → Prop} (φ : Bool → Hp → Prop) (h1 : ∀ N : Bool → Hp → Prop, (∀ b F, φ b F → N b F) → tOr t u σ H N)
    (h2 : ∀ b F, φ b F → Q b F) : tOr t u σ H Q := h1 Q h2
theorem tand_mid {t u : TT} {σ : L2.St} {H : Hp} {Q : Bool → Hp → Prop} (φ : Bool → Hp → Prop) (h1 : ∀ N : Bool → Hp → Prop, (∀ b F, φ b F → N b F) → tAnd t u σ H N)
    (h2 : ∀ b F, φ b F → Q b F) : tAnd t u σ H Q := h1 Q h2
def ab : List Str := ("abcdefghijklmnopqrstuvwxyz" : Str).cps.toList.map fun c => ⟨#[c]⟩
def spWords : Sp := fun vs H Q _ => ∃ (j : Addr) (m n : Nat), vs = [.ref j, .int m] ∧ Jug H j n ∧ n + 201 ≤ 1000000000 ∧ m ≤ 100 ∧
  ∀ (p : Addr) (ws : List Str) (H' : Hp), H p = none → H' p = some (.lst (ws.map V.str)) → ws.length = m → W8 ws → ((∀ z ∈ ws, 1 ≤ z.length) ∧ ws.Nodup) → Jug H' j (n + 201) → Ex1 j H H' → Q (.ref p) H'
theorem nd52 : (ab ++ ab.map fun z => z ++ z).Nodup := by decide +kernel
theorem ab26 : ab.length = 26 := by decide +kernel
theorem ab_ok : ∀ z ∈ ab, z.length = 1 ∧ Lo z := fun z hz => by
  have all : ∀ c ∈ ("abcdefghijklmnopqrstuvwxyz" : Str).cps.toList, c < 128 := by decide +kernel
  obtain ⟨c, hc, rfl⟩ := List.mem_map.mp hz
  exact ⟨rfl, lo_one (all c hc)⟩
def rep8 (z : Str) : Str := ⟨(List.replicate (8 : Int).toNat z.cps).foldl (· ++ ·) #[]⟩
theorem rep_ok : ∀ z ∈ ab, (rep8 z).length = 8 ∧ Lo (rep8 z) := fun z hz => by
  have all : ∀ c ∈ ("abcdefghijklmnopqrstuvwxyz" : Str).cps.toList, c < 128 := by decide +kernel
  obtain ⟨c, hc, rfl⟩ := List.mem_map.mp hz
  have e : rep8 ⟨#[c]⟩ = ⟨#[c, c, c, c, c, c, c, c]⟩ := rfl
  rw [e]
  refine ⟨rfl, fun d hd => ?_⟩
  have hd : d ∈ [c, c, c, c, c, c, c, c] := hd
  have ed : d = c := by simpa using hd
  rw [ed]
  exact all c hc
theorem nd104 : (ab ++ ab.map (fun z => z ++ z) ++ ab.map (fun z => (("tuvwxy" : String) : Str) ++ z) ++ ab.map rep8).Nodup := by decide +kernel
theorem take_map {f : Str → Str} {ws : List Str} {i : Nat} {z : Str} (h : ws[i]? = some z) : ((ws.take (i + 1)).map f).map V.str = ((ws.take i).map f).map V.str ++ [V.str (f z)] := by
  rw [List.take_succ, h, List.map_append, List.map_append]
  rfl
section
variable {P : Program} {w : World} {K : PySem.W.Frag} {mg : Str → Option Value} {base : Heap} {A : Ad}
theorem ok_words (T : Txt K mg A) : FnOk P w K mg base CX0 2 A.f_words A.d_words P_words spWords := by
  refine T.F_words.ok sc_words (fun vs H Q E h => ?_) (fun cdv A' outer s H vs Q E hr h => ?_)
  · obtain ⟨j, m, n, rfl, _⟩ := h
    rfl
  · obtain ⟨j, m, n, rfl, hj, n9, m100, k⟩ := h
    refine ⟨_, (pss_cons (ps_set (i := 2) sc_words.nd rfl (Or.inl rfl) (pe_callTy (cr_listS rfl) (by rfl) T.n_list (by decide +kernel) (pa_cons pe_str pa_nil)))
    (pss_cons (ps_set (i := 3) sc_words.nd rfl (Or.inr rfl) (pe_op op_cat (pv 2) (pe_lc (own := [("one", 5)]) (tt := tYes) (g := (gName 5)) rfl sc_words.nd (pi_listK (K := K) rfl (pv 2)) (blkOk_by (own := [("one", 5)]) (N := N_words) (sc := defScope s_words) (by decide +kernel)) (fun _ _ _ _ _ => (pg_name (i := 5) sc_words.nd rfl (Or.inl rfl))) (fun _ _ _ _ _ => pts_nil) (fun _ _ _ _ _ => by exact (pe_op op_add_str (pv 5) (pv 5))))))
    (pss_cons (ps_if (PW.pt (pw_or (pt_cmpR op_gt (pv 1) pe_int (nomark _)) (pw_or1 (pt_cmpR op_eq (pe_call (ok_dip T) (hr.mono (by decide)) rfl T.g_dip T.F_dip.kp T.b_dip .nil pass0 (pa_cons (pv 0) (pa_cons pe_int pa_nil))) pe_int (nomark _)))))
      (pss_one (ps_set (i := 3) sc_words.nd rfl (Or.inr rfl) (pe_op op_cat (pe_op op_cat (pv 3) (pe_lc (own := [("one", 5)]) (tt := tYes) (g := (gName 5)) rfl sc_words.nd (pi_listK (K := K) rfl (pv 2)) (blkOk_by (own := [("one", 5)]) (N := N_words) (sc := defScope s_words) (by decide +kernel)) (fun _ _ _ _ _ => (pg_name (i := 5) sc_words.nd rfl (Or.inl rfl))) (fun _ _ _ _ _ => pts_nil) (fun _ _ _ _ _ => by exact (pe_op op_add_str pe_str (pv 5))))) (pe_lc (own := [("one", 5)]) (tt := tYes) (g := (gName 5)) rfl sc_words.nd (pi_listK (K := K) rfl (pv 2)) (blkOk_by (own := [("one", 5)]) (N := N_words) (sc := defScope s_words) (by decide +kernel)) (fun _ _ _ _ _ => (pg_name (i := 5) sc_words.nd rfl (Or.inl rfl))) (fun _ _ _ _ _ => pts_nil) (fun _ _ _ _ _ => by exact (pe_op op_mulS (pv 5) pe_int))))))
      pss_nil)
    (pss_one (ps_ret (pe_lc (own := [("k", 4)]) (tt := tYes) (g := (gName 4)) rfl sc_words.nd (pi_range1 (by rfl) T.n_range (pa_cons (pv 1) pa_nil)) (blkOk_by (own := [("k", 4)]) (N := N_words) (sc := defScope s_words) (by decide +kernel)) (fun _ _ _ _ _ => (pg_name (i := 4) sc_words.nd rfl (Or.inl rfl))) (fun _ _ _ _ _ => pts_nil) (fun _ _ _ _ _ => by exact (pe_K (K := K) rfl (pe_bm PySem.F.plainAttrs_list PySem.F.slot_list_pop PySem.F.type_list_pop mt_popAt (by exact (pv 3)) (by exact (pa_cons (pe_call (ok_dip T) (hr.mono (by decide)) rfl T.g_dip T.F_dip.kp T.b_dip .nil pass0 (pa_cons (pv 0) (pa_cons (pe_callB (len_seqK (K := K) rfl) (by rfl) T.n_len PySem.boot_len (pa_cons (pv 3) pa_nil)) pa_nil))) pa_nil))))))))))), ?_⟩
    refine ⟨_, rfl, (by decide +kernel), fun L nL => ?_⟩
    have Lj := hj.ne nL
    have hL0 : upd H L (.lst (("abcdefghijklmnopqrstuvwxyz" : Str).cps.toList.map fun c => V.str ⟨#[c]⟩)) L = some (.lst (ab.map V.str)) := by
      rw [upd_same]
      unfold ab
      rw [List.map_map]
      rfl
    have j0 := hj.put (o := .lst (("abcdefghijklmnopqrstuvwxyz" : Str).cps.toList.map fun c => V.str ⟨#[c]⟩)) Lj
    have x0 : Ex1 j H (upd H L (.lst (("abcdefghijklmnopqrstuvwxyz" : Str).cps.toList.map fun c => V.str ⟨#[c]⟩))) := (Ex1.refl j H).over nL
    generalize upd H L (.lst (("abcdefghijklmnopqrstuvwxyz" : Str).cps.toList.map fun c => V.str ⟨#[c]⟩)) = H1 at hL0 j0 x0
    -- letters + [one + one ..]
    refine ⟨_, rfl, _, rfl, L, rfl, ⟨_, SqL.of hL0⟩, fun D nD => ?_⟩
    have Dj := j0.ne nD
    have nD0 := x0.free nD Dj
    have LD : L ≠ D := ne_of_none hL0 nD
    refine lc_list (K := K) (a := L) (xs := ab.map V.str) (fun i G => Jug G j n ∧ Ex1 j H G ∧ G L = some (.lst (ab.map V.str)) ∧ G D = some (.lst (((ab.take i).map fun z => z ++ z).map V.str)))
      ⟨j0.put Dj, x0.over nD0, by rw [upd_ne LD]; exact hL0, upd_same⟩ (fun i G _ z => SqL.of z.2.2.1) ?_ ?_
    · rintro i x G hi ⟨jG, xG, hL, hD⟩
      obtain ⟨z, hz, rfl⟩ := item_str hi
      have z1 := (ab_ok z (List.mem_of_getElem? hz)).1
      have il : i < ab.length := (List.getElem?_eq_some_iff.mp hz).1
      rw [ab26] at il
      refine ⟨rfl, _, rfl, _, rfl, z, z, rfl, rfl, by rw [z1]; decide, _, hD, by rw [List.length_map, List.length_map, List.length_take]; exact lt_size (m := 30) (by omega) (by decide), jG.put Dj, xG.over nD0, by rw [upd_ne LD]; exact hL, ?_⟩
      rw [upd_same, take_map hz]
    · rintro G ⟨jG, xG, hL, hD⟩
      rw [List.length_map, List.take_of_length_le (Nat.le_refl _)] at hD
      refine ⟨L, D, _, _, rfl, rfl, hL, hD, by rw [List.length_map, List.length_map, List.length_map, ab26]; decide, fun S nS => ?_⟩
      have Sj := jG.ne nS
      have nS0 := xG.free nS Sj
      have LS : L ≠ S := ne_of_none hL nS
      have hS0 : upd G S (.lst (ab.map V.str ++ (ab.map fun z => z ++ z).map V.str)) S = some (.lst ((ab ++ ab.map fun z => z ++ z).map V.str)) := by rw [upd_same, List.map_append]
      have jS := jG.put (o := .lst (ab.map V.str ++ (ab.map fun z => z ++ z).map V.str)) Sj
      have xS : Ex1 j H (upd G S (.lst (ab.map V.str ++ (ab.map fun z => z ++ z).map V.str))) := xG.over nS0
      have hL2 : upd G S (.lst (ab.map V.str ++ (ab.map fun z => z ++ z).map V.str)) L = some (.lst (ab.map V.str)) := by rw [upd_ne LS]; exact hL
      generalize upd G S (.lst (ab.map V.str ++ (ab.map fun z => z ++ z).map V.str)) = G2 at hS0 jS xS hL2
      have w52 : W8 (ab ++ ab.map fun z => z ++ z) := fun z hz => by
        rcases List.mem_append.mp hz with q | q
        · exact ⟨by rw [(ab_ok z q).1]; decide, (ab_ok z q).2⟩
        · obtain ⟨y, hy, rfl⟩ := List.mem_map.mp q
          exact ⟨by rw [str_add, (ab_ok y hy).1]; decide, (ab_ok y hy).2.app (ab_ok y hy).2⟩
      have l52 : (ab ++ ab.map fun z => z ++ z).length = 52 := by rw [List.length_append, List.length_map, ab26]
      have p52 : ∀ z ∈ ab ++ ab.map (fun z => z ++ z), 1 ≤ z.length := fun z hz => by
        rcases List.mem_append.mp hz with q | q
        · rw [(ab_ok z q).1]
          exact Nat.le_refl _
        · obtain ⟨y, hy, rfl⟩ := List.mem_map.mp q
          rw [str_add, (ab_ok y hy).1]
          decide
      refine nx_of ?_
      refine seq_mid (fun σ F => ∃ (S : Addr) (ws : List Str), σ = [some (.ref j), some (.int m), some (.ref L), some (.ref S), none, none] ∧ Jug F j (n + 1) ∧ Ex1 j H F ∧ H S = none ∧ F S = some (.lst (ws.map V.str)) ∧ W8 ws ∧ (∀ z ∈ ws, 1 ≤ z.length) ∧ m ≤ ws.length ∧ ws.length ≤ 104 ∧ ws.Nodup) (fun N hN => ?_) ?_
      · show tOr _ _ _ _ _
        refine tor_mid (fun b F => (b = false → m ≤ 12) ∧ Jug F j (n + 1) ∧ Ex1 j G2 F) (fun M hM => ?_) ?_
        · refine ⟨_, rfl, _, _, rfl, rfl, _, rfl, ?_⟩
          by_cases m12 : (12 : Int) < m
          · rw [decide_eq_true m12]
            exact iteT (hM true G2 ⟨(fun z => nomatch z), jS.more (by omega), Ex1.refl _ _⟩)
          · rw [decide_eq_false m12]
            refine iteF ?_
            refine ⟨_, rfl, j, 3, n, rfl, jS, by omega, by decide, by decide, fun r F r0 r1 jF xF => ?_⟩
            exact ⟨rfl, _, rfl, hM _ F ⟨fun _ => by omega, jF, xF⟩⟩
        · rintro b F ⟨hb, jF, xF⟩
          have hSF := xF S _ Sj hS0
          have hLF := xF L _ Lj hL2
          have xF0 := xS.trans xF
          cases b with
          | false =>
            refine iteF (to_nx (hN _ _ ⟨S, _, rfl, jF, xF0, nS0, hSF, w52, p52, by rw [l52]; have := hb rfl; omega, by rw [l52]; decide, nd52⟩))
          | true =>
            refine iteT ?_
            have fresh : ∀ {G : Hp} {D : Addr}, Jug G j (n + 1) → Ex1 j H G → G D = none → D ≠ j ∧ H D = none := fun jG xG nD => ⟨jG.ne nD, xG.free nD (jG.ne nD)⟩
            -- ["tuvwxy" + one ..]
            refine ⟨_, rfl, _, rfl, L, rfl, ⟨_, SqL.of hLF⟩, fun D nD => ?_⟩
            obtain ⟨Dj, nD0⟩ := fresh jF xF0 nD
            have LD : L ≠ D := ne_of_none hLF nD
            have SD : S ≠ D := ne_of_none hSF nD
            refine lc_list (K := K) (a := L) (xs := ab.map V.str) (fun i G => Jug G j (n + 1) ∧ Ex1 j H G ∧ G L = some (.lst (ab.map V.str)) ∧ G S = some (.lst ((ab ++ ab.map fun z => z ++ z).map V.str)) ∧ G D = some (.lst (((ab.take i).map fun z => (("tuvwxy" : String) : Str) ++ z).map V.str)))
              ⟨jF.put Dj, xF0.over nD0, by rw [upd_ne LD]; exact hLF, by rw [upd_ne SD]; exact hSF, upd_same⟩ (fun i G _ z => SqL.of z.2.2.1) ?_ ?_
            · rintro i x G hi ⟨jG, xG, hL, hS, hD⟩
              obtain ⟨z, hz, rfl⟩ := item_str hi
              have z1 := (ab_ok z (List.mem_of_getElem? hz)).1
              have il : i < ab.length := (List.getElem?_eq_some_iff.mp hz).1
              rw [ab26] at il
              refine ⟨rfl, _, rfl, _, z, rfl, rfl, by rw [z1]; decide, _, hD, by rw [List.length_map, List.length_map, List.length_take]; exact lt_size (m := 30) (by omega) (by decide), jG.put Dj, xG.over nD0, by rw [upd_ne LD]; exact hL, by rw [upd_ne SD]; exact hS, ?_⟩
              rw [upd_same, take_map hz]
            · rintro G ⟨jG, xG, hL, hS, hD⟩
              rw [List.length_map, List.take_of_length_le (Nat.le_refl _)] at hD
              refine ⟨S, D, _, _, rfl, rfl, hS, hD, by rw [List.length_map, List.length_map, List.length_map, ab26, l52]; decide, fun S2 nS2 => ?_⟩
              obtain ⟨S2j, nS20⟩ := fresh jG xG nS2
              have LS2 : L ≠ S2 := ne_of_none hL nS2
              -- [one * 8 ..]
              refine ⟨_, rfl, L, rfl, ⟨_, SqL.of ((upd_ne LS2).trans hL)⟩, fun D2 nD2 => ?_⟩
              have S2D2 : S2 ≠ D2 := fun z => by
                rw [← z, upd_same] at nD2
                cases nD2
              obtain ⟨D2j, nD20⟩ := fresh (jG.put S2j) (xG.over nS20) nD2
              have LD2 : L ≠ D2 := fun z => by
                rw [← z, upd_ne LS2, hL] at nD2
                cases nD2
              refine lc_list (K := K) (a := L) (xs := ab.map V.str) (fun i G => Jug G j (n + 1) ∧ Ex1 j H G ∧ G L = some (.lst (ab.map V.str)) ∧ G S2 = some (.lst ((ab ++ ab.map (fun z => z ++ z) ++ ab.map fun z => (("tuvwxy" : String) : Str) ++ z).map V.str)) ∧ G D2 = some (.lst (((ab.take i).map rep8).map V.str)))
                ⟨(jG.put S2j).put D2j, (xG.over nS20).over nD20, by rw [upd_ne LD2, upd_ne LS2]; exact hL, by rw [upd_ne S2D2, upd_same, List.map_append (l₁ := ab ++ _)], upd_same⟩ (fun i G _ z => SqL.of z.2.2.1) ?_ ?_
              · rintro i x G hi ⟨jG, xG, hL, hS, hD⟩
                obtain ⟨z, hz, rfl⟩ := item_str hi
                have z1 := (ab_ok z (List.mem_of_getElem? hz)).1
                have il : i < ab.length := (List.getElem?_eq_some_iff.mp hz).1
                rw [ab26] at il
                refine ⟨rfl, _, rfl, z, 8, rfl, rfl, by decide, by decide, by rw [z1]; decide, by rw [z1]; decide, _, hD, by rw [List.length_map, List.length_map, List.length_take]; exact lt_size (m := 30) (by omega) (by decide), jG.put D2j, xG.over nD20, by rw [upd_ne LD2]; exact hL, by rw [upd_ne S2D2]; exact hS, ?_⟩
                rw [upd_same, take_map hz]
                rfl
              · rintro G ⟨jG, xG, hL, hS, hD⟩
                rw [List.length_map, List.take_of_length_le (Nat.le_refl _)] at hD
                refine ⟨S2, D2, _, _, rfl, rfl, hS, hD, by rw [List.length_map, List.length_map, List.length_map, List.length_append, List.length_map, ab26, l52]; decide, fun S3 nS3 => ?_⟩
                obtain ⟨S3j, nS30⟩ := fresh jG xG nS3
                refine hN _ _ ⟨S3, ab ++ ab.map (fun z => z ++ z) ++ ab.map (fun z => (("tuvwxy" : String) : Str) ++ z) ++ ab.map rep8, rfl, jG.put S3j, xG.over nS30, nS30, by rw [upd_same, List.map_append (l₁ := _ ++ ab.map fun z => (("tuvwxy" : String) : Str) ++ z)], ?_, ?_, ?_, ?_, nd104⟩
                · intro z hz
                  rcases List.mem_append.mp hz with q | q
                  · rcases List.mem_append.mp q with q | q
                    · exact w52 z q
                    · obtain ⟨y, hy, rfl⟩ := List.mem_map.mp q
                      exact ⟨by rw [str_add, (ab_ok y hy).1]; decide, Lo.app (show ∀ c ∈ ("tuvwxy" : Str).cps.toList, c < 128 by decide +kernel) (ab_ok y hy).2⟩
                  · obtain ⟨y, hy, rfl⟩ := List.mem_map.mp q
                    exact ⟨by rw [(rep_ok y hy).1]; decide, (rep_ok y hy).2⟩
                · intro z hz
                  rcases List.mem_append.mp hz with q | q
                  · rcases List.mem_append.mp q with q | q
                    · exact p52 z q
                    · obtain ⟨y, hy, rfl⟩ := List.mem_map.mp q
                      rw [str_add, (ab_ok y hy).1]
                      decide
                  · obtain ⟨y, hy, rfl⟩ := List.mem_map.mp q
                    rw [(rep_ok y hy).1]
                    decide
                · rw [List.length_append, List.length_append, List.length_map, List.length_map, l52, ab26]
                  omega
                · rw [List.length_append, List.length_append, List.length_map, List.length_map, l52, ab26]
                  decide
      · rintro σ F ⟨S, ws, rfl, jF, xF, nS0, hS, w8, p8, mw, w104, nd⟩
        have Sj := hj.ne nS0
        refine ⟨_, rfl, m, rfl, by omega, by omega, fun D nD => ?_⟩
        have Dj := jF.ne nD
        have nD0 := xF.free nD Dj
        have SD : S ≠ D := ne_of_none hS nD
        refine lc_range (lo := 0) (n := (m : Int).toNat) (fun i G => Jug G j (n + 1 + i) ∧ Ex1 j H G ∧ ∃ rest ys : List Str, G S = some (.lst (rest.map V.str)) ∧ rest.length + i = ws.length ∧ W8 rest ∧ (∀ z ∈ rest, 1 ≤ z.length) ∧ G D = some (.lst (ys.map V.str)) ∧ ys.length = i ∧ W8 ys ∧ (∀ z ∈ ys, 1 ≤ z.length) ∧ (ys ++ rest).Nodup)
          ⟨jF.put Dj, xF.over nD0, ws, [], by rw [upd_ne SD]; exact hS, rfl, w8, p8, upd_same, rfl, w8_nil, (fun z h => nomatch h), nd⟩ ?_ ?_
        · rintro i G hi ⟨jG, xG, rest, ys, hL, el, w8r, p8r, hD, ey, w8y, p8y, nd⟩
          rw [Int.toNat_natCast] at hi
          refine ⟨rfl, ?_⟩
          refine ⟨_, rfl, .inl ⟨rfl, _, SqL.of hL⟩, _, rfl, _, rfl, S, _, rfl, .inl (SqL.of hL), j, _, n + 1 + i, rfl, jG, by omega, by rw [List.length_map]; omega, by rw [List.length_map]; omega, fun t G1 t0 t1 j1 x1 => ?_⟩
          rw [List.length_map] at t1
          obtain ⟨tn, rfl⟩ := Int.eq_ofNat_of_zero_le t0
          have tl : tn < rest.length := by omega
          have hL1 := x1 S _ Sj hL
          have it : (rest.map V.str)[tn]? = some (.str rest[tn]) := map_at (List.getElem?_eq_getElem tl)
          have gm := List.getElem_mem tl
          refine ⟨S, _, _, tn, _, rfl, rfl, hL1, by omega, by omega, seq_at (by rw [List.length_map]; exact tl), it, ?_⟩
          refine ⟨_, by rw [upd_ne SD.symm]; exact x1 D _ Dj hD, by rw [List.length_map, ey]; exact lt_size (m := 105) (by omega) (by decide), ?_⟩
          refine ⟨(j1.put Sj).put Dj, ((xG.trans x1).over nS0).over nD0, rest.eraseIdx tn, ys ++ [rest[tn]], ?_, ?_, w8_erase w8r, fun z hz => p8r z (List.mem_of_mem_eraseIdx hz), ?_, by rw [List.length_append, ey]; rfl, w8y.snoc (w8r _ gm), fun z hz => ?_, nd_pick nd tl⟩
          · rw [upd_ne SD, upd_same, erase_map]
          · rw [List.length_eraseIdx, if_pos tl]
            omega
          · rw [upd_same, List.map_append]
            rfl
          · rcases List.mem_append.mp hz with q | q
            · exact p8y z q
            · rw [List.mem_singleton.mp q]
              exact p8r _ gm
        · rintro G ⟨jG, xG, rest, ys, hL, el, w8r, p8r, hD, ey, w8y, p8y, nd⟩
          rw [Int.toNat_natCast] at ey jG
          exact k D ys G nD0 hD ey w8y ⟨p8y, (List.nodup_append.mp nd).1⟩ (jG.more (by omega)) xG
end
end My
namespace My
open PySem PySem.Spec PyProof.Rows L2
def New1 (H0 : Hp) (j p : Addr) : Prop := H0 p = none ∧ p ≠ j
structure Ms (H0 G : Hp) (j : Addr) (m : Nat) : Prop where
  jg : Jug G j m
  x : Ex1 j H0 G
def Nt (τ : Addr → Option Kd) (H0 : Hp) (j : Addr) : Prop := ∀ c, τ c ≠ none → New1 H0 j c
section
variable {τ : Addr → Option Kd} {H0 G G' : Hp} {j p : Addr} {m m' : Nat}
theorem Ms.fresh (s : Ms H0 G j m) (n : G p = none) : New1 H0 j p := ⟨s.x.free n (s.jg.ne n), s.jg.ne n⟩
theorem Ms.dip (s : Ms H0 G j m) (jg : Jug G' j m') (x : Ex1 j G G') : Ms H0 G' j m' := ⟨jg, s.x.trans x⟩
theorem Ms.put (s : Ms H0 G j m) (n : New1 H0 j p) {o : HO} : Ms H0 (upd G p o) j m := ⟨s.jg.put n.2, s.x.over n.1⟩
theorem Ms.more (s : Ms H0 G j m) (l : m ≤ m') : Ms H0 G j m' := ⟨s.jg.more l, s.x⟩
theorem Nt.tx (t : Nt τ H0 j) (n : New1 H0 j p) {k : Kd} : Nt (Tx τ p k) H0 j := fun c h => by
  by_cases e : c = p
  · rw [e]
    exact n
  · rw [tx_ne e] at h
    exact t c h
theorem Nt.of (t : Nt τ H0 j) {k : Kd} (h : τ p = some k) : New1 H0 j p := t p (by rw [h]; simp)
theorem ne_t {a : Addr} {k : Kd} (h : τ a = some k) (u : τ p = none) : a ≠ p := fun e => by rw [e, u] at h; cases h
theorem THp.dip (t : THp τ G) (nt : Nt τ H0 j) (x : Ex1 j G G') : THp τ G' := t.keep fun a h => by
  cases e : G a with
  | none => exact absurd e (t.some_ h)
  | some o => exact x a o (nt a h).2 e
theorem FT.dip (t : FT τ G) (nt : Nt τ H0 j) (x : Ex1 j G G') : FT τ G' := t.keep fun a h => by
  cases e : G a with
  | none => exact absurd e (t.some_ h)
  | some o => exact x a o (nt a h).2 e
theorem THp.put (t : THp τ G) {o : HO} (n : τ p = none) : THp τ (upd G p o) := t.keep fun a h => upd_ne fun e => h (by rw [e]; exact n)
end
/-- each keeper's row bears its place, each crew its own -/
structure Lab (ν : Addr → Nat × Nat) (μ : Addr → Nat) (G : Hp) (cs : List Addr) : Prop where
  n : ∀ (i : Nat) (c : Addr) (as : List Addr) (j : Nat) (k : Addr) (u v w : V) (r : Addr), cs[i]? = some c → G c = some (.lst (as.map V.ref)) → as[j]? = some k → G k = some (.lst [u, v, w, .ref r]) → ν r = (i, j)
  m : ∀ (i : Nat) (c : Addr), cs[i]? = some c → μ c = i
def Emp (τ : Addr → Option Kd) (G : Hp) : Prop := ∀ a, τ a = some .row → G a = some (.lst [])
theorem refs_inj {xs ys : List Addr} {o : Option HO} (h1 : o = some (.lst (xs.map V.ref))) (h2 : o = some (.lst (ys.map V.ref))) : xs = ys := by
  have m : xs.map V.ref = ys.map V.ref := HO.lst.inj (Option.some.inj (h1.symm.trans h2))
  exact (List.map_inj_right fun a b z => V.ref.inj z).mp m
theorem Lab.keep {ν : Addr → Nat × Nat} {μ : Addr → Nat} {τ : Addr → Option Kd} {G G' : Hp} {cs : List Addr} (L : Lab ν μ G cs) (t : THp τ G) (tc : ∀ c ∈ cs, τ c = some .crew) (s : ∀ a, τ a ≠ none → G' a = G a) : Lab ν μ G' cs := by
  refine ⟨fun i c as j k u v w r e1 e2 e3 e4 => ?_, L.m⟩
  have hc := tc c (List.mem_of_getElem? e1)
  rw [s c (by rw [hc]; simp)] at e2
  obtain ⟨as', q, kk, _⟩ := t.crew c hc
  have := refs_inj e2 q
  subst this
  have hk := kk k (List.mem_of_getElem? e3)
  rw [s k (by rw [hk]; simp)] at e4
  exact L.n i c as j k u v w r e1 e2 e3 e4
theorem keep_dip {τ : Addr → Option Kd} {H0 G G' : Hp} {j : Addr} (t : THp τ G) (nt : Nt τ H0 j) (x : Ex1 j G G') : ∀ a, τ a ≠ none → G' a = G a := fun a h => by
  cases e : G a with
  | none => exact absurd e (t.some_ h)
  | some o => exact x a o (nt a h).2 e
theorem keep_new {τ : Addr → Option Kd} {G : Hp} {p : Addr} {o : HO} (n : τ p = none) : ∀ a, τ a ≠ none → upd G p o a = G a := fun a h => upd_ne fun e => h (by rw [e]; exact n)
theorem Emp.keep {τ : Addr → Option Kd} {G G' : Hp} (E : Emp τ G) (s : ∀ a, τ a ≠ none → G' a = G a) : Emp τ G' := fun a h => by
  rw [s a (by rw [h]; simp)]
  exact E a h
/-- a list of crews, typed, new -/
structure Crews (τ : Addr → Option Kd) (H0 G : Hp) (j p : Addr) (as : List Addr) : Prop where
  t : THp τ G
  nt : Nt τ H0 j
  h : G p = some (.lst (as.map V.ref))
  np : New1 H0 j p
  up : τ p = none
  ok : ∀ a ∈ as, τ a = some .team
  l : as.length ≤ 3 ∧ 1 ≤ as.length
def Rowed (τ : Addr → Option Kd) (G : Hp) (as : List Addr) : Prop := ∃ (ν : Addr → Nat × Nat) (μ : Addr → Nat) (cs : List Addr), Lab ν μ G cs ∧ Emp τ G ∧ (∀ c ∈ cs, τ c = some .crew) ∧ ∀ (i : Nat) (a : Addr), as[i]? = some a → ∃ (c : Addr) (l : Int), cs[i]? = some c ∧ G a = some (.lst [.int l, .ref c])
def spTeams : Sp := fun vs H Q _ => ∃ (j : Addr) (most widest : Int) (n : Nat), vs = [.ref j, .int most, .int widest] ∧ Jug H j n ∧ n + 1000 ≤ 1000000000 ∧ 1 ≤ most ∧ most ≤ 8 ∧ 1 ≤ widest ∧ widest ≤ 12 ∧
  ∀ (p : Addr) (as : List Addr) (τ : Addr → Option Kd) (H' : Hp), Crews τ H H' j p as → Rowed τ H' as → Ms H H' j (n + 1000) → Q (.ref p) H'
section
variable {P : Program} {w : World} {K : PySem.W.Frag} {mg : Str → Option Value} {base : Heap} {A : Ad}
theorem ok_teams (T : Txt K mg A) : FnOk P w K mg base CX0 3 A.f_teams A.d_teams P_teams spTeams := by
  refine T.F_teams.ok sc_teams (fun vs H Q E h => ?_) (fun cdv A' outer s H vs Q E hr h => ?_)
  · obtain ⟨j, most, widest, n, rfl, _⟩ := h
    rfl
  · obtain ⟨j, most, widest, n, rfl, hj, n9, m1, m8, w1, w12, k⟩ := h
    refine ⟨_, (pss_cons (ps_set (i := 3) sc_teams.nd rfl (Or.inl rfl) (pe_call (ok_words T) (hr.mono (by decide)) rfl T.g_words T.F_words.kp T.b_words .nil pass0 (pa_cons (pv 0) (pa_cons (pe_op op_add pe_int (pe_call (ok_dip T) (hr.mono (by decide)) rfl T.g_dip T.F_dip.kp T.b_dip .nil pass0 (pa_cons (pv 0) (pa_cons (pv 1) pa_nil)))) pa_nil))))
    (pss_cons (ps_setLc (i := 4) (own := [("k", 9)]) (tt := tYes) (g := (gName 9)) rfl sc_teams.nd rfl rfl (sw_true rfl rfl rfl (by decide +kernel)) (pi_range1 (by rfl) T.n_range (pa_cons (pe_op op_add pe_int (pe_call (ok_dip T) (hr.mono (by decide)) rfl T.g_dip T.F_dip.kp T.b_dip .nil pass0 (pa_cons (pv 0) (pa_cons pe_int pa_nil)))) pa_nil)) (blkOk_by (own := [("k", 9)]) (N := N_teams) (sc := defScope s_teams) (by decide +kernel)) (fun _ _ _ _ _ => (pg_name (i := 9) sc_teams.nd rfl (Or.inl rfl))) (fun _ _ _ _ _ => pts_nil) (fun _ _ _ _ _ => by exact (pe_lst pa_nil)))
    (pss_cons (ps_for PassesOwn.never rfl (pi_listK (K := K) rfl (pv 3)) (pg_name (i := 5) sc_teams.nd rfl (Or.inl rfl))
      (pss_one (ps_expr (pe_K (K := K) rfl (pe_bm PySem.F.plainAttrs_list PySem.F.slot_list_append PySem.F.type_list_append mt_append (by exact (pe_ix (ix_listK (K := K) rfl) (pv 4) (pe_call (ok_dip T) (hr.mono (by decide)) rfl T.g_dip T.F_dip.kp T.b_dip .nil pass0 (pa_cons (pv 0) (pa_cons (pe_callB (len_seqK (K := K) rfl) (by rfl) T.n_len PySem.boot_len (pa_cons (pv 4) pa_nil)) pa_nil))) (fun _ _ => rfl))) (by exact (pa_cons (pe_lst (pa_cons (pv 5) (pa_cons (pe_op op_add pe_int (pe_call (ok_dip T) (hr.mono (by decide)) rfl T.g_dip T.F_dip.kp T.b_dip .nil pass0 (pa_cons (pv 0) (pa_cons (pv 2) pa_nil)))) (pa_cons pe_bl (pa_cons (pe_lst pa_nil) pa_nil))))) pa_nil)))))))
    (pss_cons (ps_set (i := 6) sc_teams.nd rfl (Or.inl rfl) (pe_lst pa_nil))
    (pss_cons (ps_for PassesOwn.never rfl (pi_listK (K := K) rfl (pv 4)) (pg_name (i := 7) sc_teams.nd rfl (Or.inl rfl))
      (pss_cons (ps_set (i := 8) sc_teams.nd rfl (Or.inl rfl) (pe_ix (ix_listK (K := K) rfl) (pe_lst (pa_cons pe_int (pa_cons pe_int pa_nil))) (pe_call (ok_dip T) (hr.mono (by decide)) rfl T.g_dip T.F_dip.kp T.b_dip .nil pass0 (pa_cons (pv 0) (pa_cons pe_int pa_nil))) (fun _ _ => rfl)))
      (pss_one (ps_expr (pe_K (K := K) rfl (pe_bm PySem.F.plainAttrs_list PySem.F.slot_list_append PySem.F.type_list_append mt_append (by exact (pv 6)) (by exact (pa_cons (pe_lst (pa_cons (pe_callB (call_min2 rfl) (by rfl) T.n_min (by decide +kernel) (pa_cons (pe_call (ok_dip T) (hr.mono (by decide)) rfl T.g_dip T.F_dip.kp T.b_dip .nil pass0 (pa_cons (pv 0) (pa_cons (pe_op op_add (pe_callB (len_seqK (K := K) rfl) (by rfl) T.n_len PySem.boot_len (pa_cons (pv 7) pa_nil)) pe_int) pa_nil))) (pa_cons (pe_call (ok_dip T) (hr.mono (by decide)) rfl T.g_dip T.F_dip.kp T.b_dip .nil pass0 (pa_cons (pv 0) (pa_cons (pv 8) pa_nil))) pa_nil))) (pa_cons (pv 7) pa_nil))) pa_nil))))))))
    (pss_one (ps_ret (pv 6)))))))), ?_⟩
    have s0 : Ms H H j n := ⟨hj, Ex1.refl _ _⟩
    refine ⟨_, rfl, _, rfl, _, rfl, j, most, n, rfl, hj, by omega, by omega, by omega, fun r H1 r0 r1 j1 x1 => ?_⟩
    obtain ⟨rn, rfl⟩ := Int.eq_ofNat_of_zero_le r0
    have s1 := s0.dip j1 x1
    refine ⟨_, _, rfl, rfl, j, 1 + rn, n + 1, rfl, j1, by omega, by omega, fun nm ws H2 nnm hnm lw w8 p8 j2 x2 => ?_⟩
    have s2 := s1.dip j2 x2
    have Nnm := s1.fresh nnm
    -- crews
    refine ⟨_, rfl, j, 3, n + 1 + 201, rfl, j2, by omega, by decide, by decide, fun r3 H3 r30 r31 j3 x3 => ?_⟩
    obtain ⟨c3, rfl⟩ := Int.eq_ofNat_of_zero_le r30
    have s3 := s2.dip j3 x3
    have hnm3 := x3 nm _ Nnm.2 hnm
    refine ⟨_, _, rfl, rfl, _, rfl, by omega, by omega, fun D nD => ?_⟩
    have ND := s3.fresh nD
    have nmD : nm ≠ D := ne_of_none hnm3 nD
    refine lc_range (lo := 0) (n := (1 + (c3 : Int)).toNat) (fun i G => ∃ (τ : Addr → Option Kd) (cs : List Addr), THp τ G ∧ Nt τ H j ∧ Ms H G j (n + 203) ∧ τ D = none ∧ τ nm = none ∧ G nm = some (.lst (ws.map V.str)) ∧ G D = some (.lst (cs.map V.ref)) ∧ cs.length = i ∧ (∀ c ∈ cs, τ c = some .crew ∧ G c = some (.lst [])) ∧ Emp τ G ∧ ∃ μ : Addr → Nat, ∀ (i : Nat) (c : Addr), cs[i]? = some c → μ c = i)
      ⟨fun _ => none, [], ⟨fun a e => (nomatch e), fun a e => (nomatch e), fun a e => (nomatch e), fun a e => (nomatch e)⟩, fun c h => absurd rfl h, s3.put ND, rfl, rfl, (upd_ne nmD).trans hnm3, upd_same, rfl, (fun c h => nomatch h), (fun a h => nomatch h), fun _ => 0, fun i c h => by simp at h⟩ ?_ ?_
    · rintro i G hi ⟨τ, cs, t, nt, sG, uD, unm, hn, hD, lc, hc, em, μ, hμ⟩
      refine ⟨rfl, ?_⟩
      refine ⟨(show 0 ≤ sizeLine by decide), fun c nc => ?_⟩
      have Nc := sG.fresh nc
      have Dc : D ≠ c := ne_of_none hD nc
      have nmc : nm ≠ c := ne_of_none hn nc
      have t' := t.newCrew nc
      refine ⟨_, (upd_ne Dc).trans hD, by rw [List.length_map, lc]; exact lt_size (m := 101) (by omega) (by decide), Tx τ c .crew, cs ++ [c], t'.put ((tx_ne Dc).trans uD), nt.tx Nc, (sG.put Nc).put ND, (tx_ne Dc).trans uD, (tx_ne nmc).trans unm, ?_, by rw [upd_same, List.map_append]; rfl, by rw [List.length_append, lc]; rfl, fun x hx => ?_, ?_, fun x => if x = c then i else μ x, fun i2 c2 h => ?_⟩
      · rw [upd_ne nmD, upd_ne nmc]
        exact hn
      · rcases List.mem_append.mp hx with q | q
        · obtain ⟨h1, h2⟩ := hc x q
          refine ⟨tx_old (t.untyped nc) h1, ?_⟩
          rw [upd_ne (ne_t h1 uD), upd_ne (ne_of_none h2 nc)]
          exact h2
        · rw [List.mem_singleton.mp q]
          refine ⟨tx_same, ?_⟩
          rw [upd_ne Dc.symm]
          exact upd_same
      · intro a ha
        rcases tx_inv ha with ⟨_, z⟩ | ⟨ne, ha⟩
        · cases z
        · have e0 := em a ha
          rw [upd_ne (ne_t ha uD), upd_ne ne]
          exact e0
      · by_cases e : c2 = c
        · show (if c2 = c then i else μ c2) = i2
          rw [if_pos e]
          have il : ¬ i2 < cs.length := fun lt => by
            rw [List.getElem?_append_left lt] at h
            have q := (hc c2 (List.mem_of_getElem? h)).2
            rw [e, nc] at q
            cases q
          have il2 := (List.getElem?_eq_some_iff.mp h).1
          rw [List.length_append] at il2
          have : i2 < cs.length + 1 := il2
          omega
        · show (if c2 = c then i else μ c2) = i2
          rw [if_neg e]
          by_cases lt : i2 < cs.length
          · rw [List.getElem?_append_left lt] at h
            exact hμ i2 c2 h
          · rw [List.getElem?_append_right (by omega)] at h
            cases e2 : i2 - cs.length with
            | zero =>
              rw [e2] at h
              exact absurd (Option.some.inj h).symm e
            | succ n =>
              rw [e2] at h
              cases h
    · rintro G ⟨τ, cs, t, nt, sG, uD, unm, hn, hD, lc, hc, em, μ, hμ⟩
      have lc3 : 1 ≤ cs.length ∧ cs.length ≤ 3 := by omega
      -- for name in named
      refine ⟨_, rfl, nm, rfl, ⟨_, SqL.of hn⟩, for_list (K := K) (a := nm) (xs := ws.map V.str) (fun i σ F => ∃ (τ : Addr → Option Kd) (v5 : Option V), σ = [some (.ref j), some (.int most), some (.int widest), some (.ref nm), some (.ref D), v5, none, none, none, none] ∧ THp τ F ∧ Nt τ H j ∧ Ms H F j (n + 203 + 2 * i) ∧ τ D = none ∧ τ nm = none ∧ F nm = some (.lst (ws.map V.str)) ∧ F D = some (.lst (cs.map V.ref)) ∧
          (∀ c ∈ cs, τ c = some .crew ∧ ∃ as : List Addr, F c = some (.lst (as.map V.ref)) ∧ as.length ≤ i) ∧ Emp τ F ∧ ∃ ν, Lab ν μ F cs)
        ⟨τ, none, rfl, t, nt, sG, uD, unm, hn, hD, fun c h => ⟨(hc c h).1, [], (hc c h).2, Nat.le_refl _⟩, em, fun _ => (0, 0), fun i c as j k u v w r e1 e2 e3 e4 => by
          have q := refs_inj (xs := []) (hc c (List.mem_of_getElem? e1)).2 e2
          rw [← q] at e3
          simp at e3, hμ⟩ (fun i σ F _ z => by obtain ⟨τ, v5, _, _, _, _, _, _, z, _⟩ := z; exact SqL.of z) ?_ ?_⟩
      · rintro i x σ F hi ⟨τ, v5, rfl, t, nt, sF, uD, unm, hn, hD, hc, em, ν, L⟩
        obtain ⟨z, hz, rfl⟩ := item_str hi
        have il : i < ws.length := (List.getElem?_eq_some_iff.mp hz).1
        have zm := List.mem_of_getElem? hz
        refine ⟨_, rfl, _, rfl, _, rfl, D, _, rfl, .inl (SqL.of hD), j, _, n + 203 + 2 * i, rfl, sF.jg, by omega, by rw [List.length_map]; omega, by rw [List.length_map]; omega, fun r G1 r0 r1 j1 x1 => ?_⟩
        rw [List.length_map] at r1
        obtain ⟨q, rfl⟩ := Int.eq_ofNat_of_zero_le r0
        have ql : q < cs.length := by omega
        have sG1 := sF.dip j1 x1
        have hD1 := x1 D _ ND.2 hD
        have eq : cs[q]? = some cs[q] := List.getElem?_eq_getElem ql
        obtain ⟨tc, as, ha, la⟩ := hc _ (List.getElem_mem ql)
        have ha1 := x1 _ _ (nt.of tc).2 ha
        have t1 := t.dip nt x1
        have hn1 := x1 nm _ Nnm.2 hn
        refine ⟨D, _, _, _, rfl, rfl, SqL.of hD1, atI_nat (map_at eq), .inl ⟨rfl, _, SqL.of ha1⟩, ?_⟩
        refine ⟨_, rfl, _, rfl, _, rfl, j, widest, _, rfl, j1, by omega, by omega, by omega, fun r2 G2 r20 r21 j2 x2 => ?_⟩
        have sG2 := sG1.dip j2 x2
        have hD2 := x2 D _ ND.2 hD1
        have ha2 := x2 _ _ (nt.of tc).2 ha1
        have t2 := t1.dip nt x2
        have hn2 := x2 nm _ Nnm.2 hn1
        refine ⟨_, _, rfl, rfl, (show 0 ≤ sizeLine by decide), fun ra nra => ?_⟩
        have Nra := sG2.fresh nra
        have t3 := t2.newRow (ws := []) nra w8_nil (by decide)
        have ura := t2.untyped nra
        have Dra : D ≠ ra := ne_of_none hD2 nra
        have nmra : nm ≠ ra := ne_of_none hn2 nra
        have cra : cs[q] ≠ ra := ne_of_none ha2 nra
        refine ⟨(show 4 ≤ sizeLine by decide), fun ka nka => ?_⟩
        have Nka := (sG2.put (o := .lst []) Nra).fresh nka
        have hra : upd G2 ra (.lst []) ra = some (.lst []) := upd_same
        have raka : ra ≠ ka := ne_of_none hra nka
        have hD3 := (upd_ne (H := G2) (o := .lst []) Dra).trans hD2
        have hn3 := (upd_ne (H := G2) (o := .lst []) nmra).trans hn2
        have ha3 := (upd_ne (H := G2) (o := .lst []) cra).trans ha2
        have Dka : D ≠ ka := ne_of_none hD3 nka
        have nmka : nm ≠ ka := ne_of_none hn3 nka
        have cka : cs[q] ≠ ka := ne_of_none ha3 nka
        have t4 := t3.newKep (z := z) (room := 1 + r2) (r := ra) nka (w8 z zm) (p8.1 z zm) (by omega) (by omega) tx_same
        have uka := t3.untyped nka
        have tc4 : Tx (Tx τ ra .row) ka .kep cs[q] = some .crew := (tx_ne cka).trans ((tx_ne cra).trans tc)
        have ha4 := (upd_ne (H := upd G2 ra (.lst [])) (o := .lst [V.str z, .int (1 + r2), .bl true, .ref ra]) cka).trans ha3
        have t5 := t4.join (k := ka) tc4 ha4 tx_same (by omega)
        have cD : cs[q] ≠ D := ne_t tc uD
        have cnm : cs[q] ≠ nm := ne_t tc unm
        refine ⟨_, _, _, rfl, rfl, ha4, by rw [List.length_map]; exact lt_size (m := 101) (by omega) (by decide), ?_⟩
        have Nc := nt.of tc
        rw [List.map_append] at t5
        refine ⟨_, _, rfl, t5, (nt.tx Nra).tx Nka, ((((sG2.put Nra).put Nka).put Nc).more (by omega)), (tx_ne Dka).trans ((tx_ne Dra).trans uD), (tx_ne nmka).trans ((tx_ne nmra).trans unm), ?_, ?_, fun c hcm => ?_, fun a ha => ?_, fun r' => if r' = ra then (q, as.length) else ν r', fun i2 c2 as2 j2 k2 u2 v2 w2 r2' e1 e2 e3 e4 => ?_, L.m⟩
        · rw [upd_ne cnm.symm, upd_ne nmka]
          exact hn3
        · rw [upd_ne cD.symm, upd_ne Dka]
          exact hD3
        · obtain ⟨tc', as', ha', la'⟩ := hc c hcm
          have ha2' := x2 _ _ (nt.of tc').2 (x1 _ _ (nt.of tc').2 ha')
          have c1 : c ≠ ra := ne_of_none ha2' nra
          have c2 : c ≠ ka := ne_of_none ((upd_ne c1).trans ha2') nka
          refine ⟨(tx_ne c2).trans ((tx_ne c1).trans tc'), ?_⟩
          by_cases e : c = cs[q]
          · refine ⟨as ++ [ka], ?_, by rw [List.length_append]; show as.length + 1 ≤ _; omega⟩
            rw [e, upd_same, List.map_append]
            rfl
          · refine ⟨as', ?_, by omega⟩
            rw [upd_ne e, upd_ne c2, upd_ne c1]
            exact ha2'
        · have ac : a ≠ cs[q] := fun e => by
            rw [e] at ha
            have ha : Tx (Tx τ ra .row) ka .kep cs[q] = some .row := ha
            rw [tc4] at ha
            cases ha
          rcases tx_inv ha with ⟨_, z⟩ | ⟨ne, ha⟩
          · cases z
          · rcases tx_inv ha with ⟨z, _⟩ | ⟨ne2, ha⟩
            · rw [upd_ne ac, upd_ne ne, z]
              exact upd_same
            · rw [upd_ne ac, upd_ne ne, upd_ne ne2]
              exact (em.keep (keep_dip t nt (x1.trans x2))) a ha
        · have L2 := L.keep t (fun c h => (hc c h).1) (keep_dip t nt (x1.trans x2))
          have tc2 := (hc c2 (List.mem_of_getElem? e1)).1
          -- a keeper that was there
          have old : ∀ {as0 : List Addr}, G2 c2 = some (.lst (as0.map V.ref)) → as0[j2]? = some k2 → (if r2' = ra then (q, as.length) else ν r2') = (i2, j2) := fun {as0} h0 h1 => by
            obtain ⟨as9, q9, kk, _⟩ := t2.crew c2 tc2
            have := refs_inj h0 q9
            subst this
            have hk := kk k2 (List.mem_of_getElem? h1)
            obtain ⟨z9, ro9, wh9, r9, hk9, _, _, _, _, tr9, _⟩ := t2.kep k2 hk
            have n1 : k2 ≠ cs[q] := fun e => by rw [e, tc] at hk; cases hk
            have n2 : k2 ≠ ra := ne_of_none hk9 nra
            have n3 : k2 ≠ ka := ne_of_none ((upd_ne n2).trans hk9) nka
            have e4' : G2 k2 = some (.lst [u2, v2, w2, .ref r2']) := by
              rw [upd_ne n1, upd_ne n3, upd_ne n2] at e4
              exact e4
            have er : r2' = r9 := by
              rw [hk9] at e4'
              cases e4'
              rfl
            have nr : r2' ≠ ra := fun e => by
              rw [er] at e
              rw [e, ura] at tr9
              cases tr9
            rw [if_neg nr]
            exact L2.n i2 c2 as0 j2 k2 u2 v2 w2 r2' e1 h0 h1 e4'
          by_cases ec : c2 = cs[q]
          · have ei : i2 = q := by
              have := L.m i2 c2 e1
              have := L.m q cs[q] eq
              rw [ec] at *
              omega
            rw [ec, upd_same] at e2
            have e5 := refs_inj (ys := as ++ [ka]) e2 (by rw [List.map_append]; rfl)
            subst e5
            by_cases lt : j2 < as.length
            · rw [List.getElem?_append_left lt] at e3
              exact old (as0 := as) (by rw [ec]; exact ha2) e3
            · have j3 := (List.getElem?_eq_some_iff.mp e3).1
              rw [List.length_append] at j3
              have j3 : j2 < as.length + 1 := j3
              have ej : j2 = as.length := by omega
              rw [ej, List.getElem?_append_right (Nat.le_refl _), Nat.sub_self] at e3
              have ek : ka = k2 := Option.some.inj e3
              rw [← ek, upd_ne (fun e => cka e.symm), upd_same] at e4
              have er : r2' = ra := by
                cases e4
                rfl
              rw [if_pos er, ei, ej]
          · rw [upd_ne ec] at e2
            have hc2 := t2.crew c2 tc2
            obtain ⟨as9, q9, _⟩ := hc2
            have n2 : c2 ≠ ra := ne_of_none q9 nra
            have n3 : c2 ≠ ka := ne_of_none ((upd_ne n2).trans q9) nka
            rw [upd_ne n3, upd_ne n2] at e2
            exact old e2 e3
      · rintro σ F ⟨τ, v5, rfl, t, nt, sF, uD, unm, hn, hD, hc, em, ν, L⟩
        refine ⟨(show 0 ≤ sizeLine by decide), fun f nf => ?_⟩
        have Nf := sF.fresh nf
        have Df : D ≠ f := ne_of_none hD nf
        refine ⟨_, rfl, D, rfl, ⟨_, SqL.of ((upd_ne Df).trans hD)⟩, for_list (K := K) (a := D) (xs := cs.map V.ref) (fun i σ F => ∃ (τ : Addr → Option Kd) (ts : List Addr) (v5 v7 v8 : Option V), σ = [some (.ref j), some (.int most), some (.int widest), some (.ref nm), some (.ref D), v5, some (.ref f), v7, v8, none] ∧ THp τ F ∧ Nt τ H j ∧ Ms H F j (n + 219 + 3 * i) ∧ τ D = none ∧ τ f = none ∧ F f = some (.lst (ts.map V.ref)) ∧ F D = some (.lst (cs.map V.ref)) ∧
            (∀ c ∈ cs, τ c = some .crew) ∧ ts.length = i ∧ (∀ a ∈ ts, τ a = some .team) ∧ Emp τ F ∧ Lab ν μ F cs ∧ ∀ (i : Nat) (a : Addr), ts[i]? = some a → ∃ (c : Addr) (l : Int), cs[i]? = some c ∧ F a = some (.lst [.int l, .ref c]))
          ⟨τ, [], v5, none, none, rfl, t.new nf, nt, (sF.put Nf).more (by rw [List.length_map]; omega), uD, t.untyped nf, upd_same, (upd_ne Df).trans hD, fun c h => (hc c h).1, rfl, (fun a h => nomatch h), em.keep (keep_new (t.untyped nf)), L.keep t (fun c h => (hc c h).1) (keep_new (t.untyped nf)), fun i a h => by simp at h⟩ (fun i σ F _ z => by obtain ⟨τ, ts, v5, v7, v8, _, _, _, _, _, _, _, z, _⟩ := z; exact SqL.of z) ?_ ?_⟩
        · rintro i x σ F hi ⟨τ, ts, v5, v7, v8, rfl, t, nt, sF, uD, uf, hf, hD, hc, lt, ht, em, L, tl⟩
          obtain ⟨c, hcs, rfl⟩ := item_ref hi
          have il : i < cs.length := (List.getElem?_eq_some_iff.mp hcs).1
          have tc := hc c (List.mem_of_getElem? hcs)
          obtain ⟨as, hca, kas, a8⟩ := t.crew c tc
          have cf : c ≠ f := ne_t tc uf
          have cD : c ≠ D := ne_t tc uD
          refine ⟨(show 2 ≤ sizeLine by decide), fun q nq => ?_⟩
          have Nq := sF.fresh nq
          have fq : f ≠ q := ne_of_none hf nq
          have Dq : D ≠ q := ne_of_none hD nq
          have cq : c ≠ q := ne_of_none hca nq
          refine ⟨_, rfl, j, 2, _, rfl, (sF.put Nq).jg, by omega, by decide, by decide, fun r G1 r0 r1 j1 x1 => ?_⟩
          have sG1 := (sF.put (o := .lst [V.int 4, .int 9]) Nq).dip j1 x1
          have t1 := (t.new (o := .lst [V.int 4, .int 9]) nq).dip nt x1
          have hf1 := x1 f _ Nf.2 ((upd_ne fq).trans hf)
          have hD1 := x1 D _ ND.2 ((upd_ne Dq).trans hD)
          have hc1 := x1 c _ (nt.of tc).2 ((upd_ne cq).trans hca)
          obtain ⟨ml, eml, ml1, ml9⟩ : ∃ ml : Int, atI [V.int 4, V.int 9] r = some (.int ml) ∧ 1 ≤ ml ∧ ml ≤ 9 := by
            obtain e | e : r = 0 ∨ r = 1 := by omega
            · subst e
              exact ⟨4, rfl, by decide, by decide⟩
            · subst e
              exact ⟨9, rfl, by decide, by decide⟩
          refine ⟨q, _, _, _, rfl, rfl, SqL.of (x1 q _ Nq.2 upd_same), eml, ?_⟩
          refine ⟨_, rfl, .inl ⟨rfl, _, SqL.of hf1⟩, _, rfl, _, rfl, c, _, rfl, .inl (SqL.of hc1), _, _, rfl, rfl, j, _, _, rfl, j1, by omega, by omega, by rw [List.length_map]; omega, fun r2 G2 r20 r21 j2 x2 => ?_⟩
          rw [List.length_map] at r21
          refine ⟨_, rfl, _, rfl, j, ml, _, rfl, j2, by omega, by omega, by omega, fun r3 G3 r30 r31 j3 x3 => ?_⟩
          have sG3 := (sG1.dip j2 x2).dip j3 x3
          have t3 := (t1.dip nt x2).dip nt x3
          have hf3 := x3 f _ Nf.2 (x2 f _ Nf.2 hf1)
          have hD3 := x3 D _ ND.2 (x2 D _ ND.2 hD1)
          have hc3 := x3 c _ (nt.of tc).2 (x2 c _ (nt.of tc).2 hc1)
          obtain ⟨mv, emv, mv0, mv1⟩ : ∃ mv : Int, mv = (if r3 < r2 then r3 else r2) ∧ 0 ≤ mv ∧ mv ≤ as.length := by
            refine ⟨_, rfl, ?_, ?_⟩ <;> split <;> omega
          refine ⟨_, _, rfl, ?_⟩
          rw [← emv]
          refine ⟨_, rfl, (show 2 ≤ sizeLine by decide), fun p np => ?_⟩
          have Np := sG3.fresh np
          have t4 := t3.newTeam (l := mv) np tc hc3 mv0 mv1
          have kp3 : ∀ a, τ a ≠ none → G3 a = F a := fun a h => (keep_dip (t.new (o := .lst [V.int 4, .int 9]) nq) nt (x1.trans (x2.trans x3)) a h).trans (keep_new (t.untyped nq) a h)
          have fp : f ≠ p := ne_of_none hf3 np
          have Dp_ : D ≠ p := ne_of_none hD3 np
          refine ⟨f, _, _, rfl, rfl, (upd_ne fp).trans hf3, by rw [List.length_map, lt]; exact lt_size (m := 101) (by omega) (by decide), ?_⟩
          refine ⟨_, ts ++ [p], _, _, _, rfl, t4.put ((tx_ne fp).trans uf), nt.tx Np, ((sG3.put Np).put Nf).more (by omega), (tx_ne Dp_).trans uD, (tx_ne fp).trans uf, by rw [upd_same, List.map_append]; rfl, ?_, fun c' h => tx_old (t3.untyped np) (hc c' h), by rw [List.length_append, lt]; rfl, fun a ha => ?_, ?_, ?_, fun i2 a2 h2 => ?_⟩
          · rw [upd_ne Df, upd_ne Dp_]
            exact hD3
          · rcases List.mem_append.mp ha with h | h
            · exact tx_old (t3.untyped np) (ht a h)
            · rw [List.mem_singleton.mp h]
              exact tx_same
          · intro a ha
            rcases tx_inv ha with ⟨_, z⟩ | ⟨ne, ha⟩
            · cases z
            · rw [upd_ne (ne_t ha uf), upd_ne ne]
              exact (em.keep kp3) a ha
          · refine L.keep t hc fun a ha => ?_
            rw [upd_ne fun e => ha (by rw [e]; exact uf), upd_ne fun e => ha (by rw [e]; exact t3.untyped np)]
            exact kp3 a ha
          · by_cases lt2 : i2 < ts.length
            · rw [List.getElem?_append_left lt2] at h2
              obtain ⟨c', l', e1, e2⟩ := tl i2 a2 h2
              have ta := ht a2 (List.mem_of_getElem? h2)
              refine ⟨c', l', e1, ?_⟩
              rw [upd_ne (ne_t ta uf), upd_ne (ne_t ta (t3.untyped np)), kp3 a2 (by rw [ta]; simp)]
              exact e2
            · have j3 := (List.getElem?_eq_some_iff.mp h2).1
              rw [List.length_append] at j3
              have j3 : i2 < ts.length + 1 := j3
              have ej : i2 = ts.length := by omega
              rw [ej, List.getElem?_append_right (Nat.le_refl _), Nat.sub_self] at h2
              have ea : p = a2 := Option.some.inj h2
              refine ⟨c, mv, by rw [ej, lt]; exact hcs, ?_⟩
              rw [← ea, upd_ne fp.symm]
              exact upd_same
        · rintro σ F ⟨τ, ts, v5, v7, v8, rfl, t, nt, sF, uD, uf, hf, hD, hc, lt, ht, em, L, tl⟩
          refine ⟨_, rfl, k f ts τ F ⟨t, nt, hf, Nf, uf, ht, by rw [lt, List.length_map]; exact ⟨lc3.2, lc3.1⟩⟩ ⟨ν, μ, cs, L, em, hc, tl⟩ (sF.more (by rw [List.length_map]; omega))⟩
end
end My
/-! boards that were lived -/
namespace My
open PySem PySem.Spec PyProof.Rows L2
theorem paired_ex {α β : Type} {R : α → β → Prop} : ∀ {xs : List α}, (∀ x ∈ xs, ∃ y, R x y) → ∃ ys, Paired R xs ys
  | [], _ => ⟨[], .nil⟩
  | x :: r, h => by
    obtain ⟨y, q⟩ := h x List.mem_cons_self
    obtain ⟨ys, p⟩ := paired_ex (xs := r) fun z hz => h z (List.mem_cons_of_mem _ hz)
    exact ⟨y :: ys, .cons q p⟩
theorem filt_le {α : Type} {p q : α → Bool} : ∀ {xs : List α}, (∀ x ∈ xs, p x = true → q x = true) → (xs.filter p).length ≤ (xs.filter q).length
  | [], _ => Nat.le_refl _
  | x :: r, h => by
    have ih := filt_le (p := p) (q := q) (xs := r) fun y hy => h y (List.mem_cons_of_mem _ hy)
    rw [List.filter_cons, List.filter_cons]
    by_cases e : p x = true
    · rw [if_pos e, if_pos (h x List.mem_cons_self e)]
      exact Nat.succ_le_succ ih
    · rw [if_neg e]
      split
      · exact Nat.le_succ_of_le ih
      · exact ih
theorem top_of (κ : Str → Nat) : ∀ {S : List Str}, S ≠ [] → ∃ z ∈ S, ∀ y ∈ S, κ y ≤ κ z
  | [], h => absurd rfl h
  | [x], _ => ⟨x, List.mem_cons_self, fun y hy => by rw [List.mem_singleton.mp hy]; exact Nat.le_refl _⟩
  | x :: y :: r, _ => by
    obtain ⟨z, hz, top⟩ := top_of κ (S := y :: r) (by simp)
    by_cases e : κ z ≤ κ x
    · refine ⟨x, List.mem_cons_self, fun u hu => ?_⟩
      rcases List.mem_cons.mp hu with q | q
      · rw [q]
        exact Nat.le_refl _
      · exact Nat.le_trans (top u q) e
    · refine ⟨z, List.mem_cons_of_mem _ hz, fun u hu => ?_⟩
      rcases List.mem_cons.mp hu with q | q
      · rw [q]
        omega
      · exact top u q
theorem behB_rise {κ : Str → Nat} {lot : List Str} {z : Str} : ∀ {row : List Str}, (row.Pairwise fun a b => κ a < κ b) → behB lot z row = true → ∃ y ∈ lot, κ z < κ y
  | [], _, h => by cases h
  | x :: r, p, h => by
    have h : (if x = z then r.any fun y => decide (y ∈ lot) else behB lot z r) = true := h
    obtain ⟨p1, p2⟩ := List.pairwise_cons.mp p
    by_cases e : x = z
    · rw [if_pos e] at h
      obtain ⟨y, hy, q⟩ := List.any_eq_true.mp h
      exact ⟨y, of_decide_eq_true q, e ▸ p1 y hy⟩
    · rw [if_neg e] at h
      exact behB_rise p2 h
/-- it still has z, or has forgotten and has later ones alone -/
def stillB (κ : Str → Nat) (z : Str) (k : Kp) : Bool := decide (z ∈ k.row) || (!k.whole && (!k.row.isEmpty && k.row.all fun x => decide (κ z < κ x)))
def LvB (bd : List Tm) : Prop := ∃ κ : Str → Nat, (∀ t ∈ bd, ∀ k ∈ t.ks, k.row.Pairwise fun a b => κ a < κ b) ∧
  ∀ t ∈ bd, ∀ k ∈ t.ks, ∀ z ∈ k.row, ∀ t' ∈ bd, t'.least ≤ ((t'.ks.filter (stillB κ z)).length : Int)
theorem lived_free {bd : List Tm} (h : LvB bd) {S : List Str} (ne : S ≠ []) (sub : ∀ z ∈ S, ∃ t ∈ bd, ∃ k ∈ t.ks, z ∈ k.row) : ∃ z ∈ S, barB S z bd = false := by
  obtain ⟨κ, rise, tal⟩ := h
  obtain ⟨z, hz, top⟩ := top_of κ ne
  refine ⟨z, hz, ?_⟩
  cases e : barB S z bd with
  | false => rfl
  | true =>
    exfalso
    obtain ⟨t, ht, q⟩ := List.any_eq_true.mp e
    unfold barT at q
    rw [Bool.or_eq_true] at q
    rcases q with q | q
    · obtain ⟨k, hk, q⟩ := List.any_eq_true.mp q
      obtain ⟨y, hy, l⟩ := behB_rise (rise t ht k hk) q
      exact absurd (top y hy) (by omega)
    · have q := of_decide_eq_true q
      obtain ⟨t0, ht0, k0, hk0, zr⟩ := sub z hz
      have l := tal t0 ht0 k0 hk0 z zr t ht
      have c : (t.ks.filter (stillB κ z)).length ≤ (t.ks.filter fun k => mayB k S z).length := filt_le fun k _ s => by
        unfold stillB at s
        unfold mayB
        rw [Bool.or_eq_true] at s ⊢
        rcases s with s | s
        · exact .inl s
        · refine .inr ?_
          rw [Bool.and_eq_true, Bool.and_eq_true] at s
          rw [Bool.and_eq_true]
          refine ⟨s.1, ?_⟩
          cases er : k.row with
          | nil =>
            rw [er] at s
            exact absurd s.2.1 (by decide)
          | cons x r =>
            rw [er] at s
            have := of_decide_eq_true (List.all_eq_true.mp s.2.2 x List.mem_cons_self)
            exact decide_eq_true fun m => absurd (top x m) (by omega)
      omega
theorem lived_none {bd : List Tm} (h : LvB bd) {ks ys : List Str} (g : Great (bB bd) ks ys) (sub : ∀ z ∈ ks, ∃ t ∈ bd, ∃ k ∈ t.ks, z ∈ k.row) : ys = [] := by
  by_cases e : ys = []
  · exact e
  · obtain ⟨z, hz, q⟩ := lived_free h e fun z m => sub z (g.sub.subset m)
    have := g.bar z hz
    rw [show bB bd ys z = barB ys z bd from rfl, q] at this
    exact absurd this (by decide)
/-! ### telling -/
/-- what a keeper has: whole, its row -/
abbrev Has := Bool × List Str
def tellK (room : Int) (wd : Str) (p : Has) : Has := if room < (p.2.length : Int) + 1 then (false, (p.2 ++ [wd]).tail) else (p.1, p.2 ++ [wd])
structure RowOk (κ : Str → Nat) (ws : List Str) (n : Nat) (p : Has) : Prop where
  r : p.2.Pairwise fun a b => κ a < κ b
  l : ∀ x ∈ p.2, κ x < n
  m : ∀ x ∈ p.2, x ∈ ws
def Good (κ : Str → Nat) (z : Str) (p : Has) : Prop := z ∈ p.2 ∨ (p.1 = false ∧ p.2 ≠ [] ∧ ∀ x ∈ p.2, κ z < κ x)
section
variable {κ : Str → Nat} {ws : List Str} {n n' : Nat} {p : Has} {room : Int} {wd z : Str}
theorem RowOk.more (h : RowOk κ ws n p) (l : n ≤ n') : RowOk κ ws n' p := ⟨h.r, fun x hx => Nat.lt_of_lt_of_le (h.l x hx) l, h.m⟩
theorem RowOk.app (h : RowOk κ ws n p) (e : κ wd = n) (hm : wd ∈ ws) : RowOk κ ws (n + 1) (p.1, p.2 ++ [wd]) := by
  refine ⟨List.pairwise_append.mpr ⟨h.r, List.pairwise_singleton _ _, fun a ha b hb => ?_⟩, fun x hx => ?_, fun x hx => ?_⟩
  · rw [List.mem_singleton.mp hb, e]
    exact h.l a ha
  · rcases List.mem_append.mp hx with q | q
    · exact Nat.lt_succ_of_lt (h.l x q)
    · rw [List.mem_singleton.mp q, e]
      exact Nat.lt_succ_self n
  · rcases List.mem_append.mp hx with q | q
    · exact h.m x q
    · rw [List.mem_singleton.mp q]
      exact hm
theorem RowOk.tell (h : RowOk κ ws n p) (e : κ wd = n) (hm : wd ∈ ws) : RowOk κ ws (n + 1) (tellK room wd p) := by
  have a := h.app e hm
  unfold tellK
  split
  · exact ⟨a.r.sublist (List.tail_sublist _), fun x hx => a.l x (List.mem_of_mem_tail hx), fun x hx => a.m x (List.mem_of_mem_tail hx)⟩
  · exact a
theorem good_new (r1 : 1 ≤ room) : Good κ wd (tellK room wd p) := by
  unfold tellK
  split
  · rename_i lt
    refine .inl ?_
    cases e : p.2 with
    | nil =>
      rw [e] at lt
      have lt : room < ((0 : Nat) : Int) + 1 := lt
      omega
    | cons x r => exact List.mem_append.mpr (.inr List.mem_cons_self)
  · exact .inl (List.mem_append.mpr (.inr List.mem_cons_self))
theorem good_old (r1 : 1 ≤ room) (h : RowOk κ ws n p) (e : κ wd = n) (l : κ z < n) (g : Good κ z p) : Good κ z (tellK room wd p) := by
  unfold tellK
  split
  · rename_i lt
    cases er : p.2 with
    | nil =>
      rw [er] at lt
      have lt : room < ((0 : Nat) : Int) + 1 := lt
      omega
    | cons x r =>
      have hr := h.r
      rw [er] at hr
      obtain ⟨p1, _⟩ := List.pairwise_cons.mp hr
      have late : (∀ y ∈ r, κ z < κ y) → Good κ z (false, ((x :: r) ++ [wd]).tail) := fun q => .inr ⟨rfl, by show r ++ [wd] ≠ []; simp, fun y hy => by
        have hy : y ∈ r ++ [wd] := hy
        rcases List.mem_append.mp hy with a | a
        · exact q y a
        · rw [List.mem_singleton.mp a, e]
          exact l⟩
      rcases g with g | ⟨_, _, g⟩
      · rw [er] at g
        rcases List.mem_cons.mp g with q | q
        · exact late fun y hy => q ▸ p1 y hy
        · exact .inl (List.mem_append.mpr (.inl q))
      · rw [er] at g
        exact late fun y hy => g y (List.mem_cons_of_mem _ hy)
  · rcases g with g | ⟨g1, g2, g3⟩
    · exact .inl (List.mem_append.mpr (.inl g))
    · refine .inr ⟨g1, by show p.2 ++ [wd] ≠ []; simp, fun y hy => ?_⟩
      have hy : y ∈ p.2 ++ [wd] := hy
      rcases List.mem_append.mp hy with a | a
      · exact g3 y a
      · rw [List.mem_singleton.mp a, e]
        exact l
end
/-- so many of them, each with P -/
def Tal {α : Type} (l : Int) (ks : List α) (P : α → Prop) : Prop := ∃ zs rest : List α, (zs ++ rest).Perm ks ∧ l ≤ zs.length ∧ ∀ k ∈ zs, P k
theorem Tal.mono {α : Type} {l : Int} {ks : List α} {P P' : α → Prop} (h : Tal l ks P) (f : ∀ k ∈ ks, P k → P' k) : Tal l ks P' := by
  obtain ⟨zs, rest, pm, ll, q⟩ := h
  exact ⟨zs, rest, pm, ll, fun k hk => f k (pm.subset (List.mem_append.mpr (.inl hk))) (q k hk)⟩
theorem all_filter {α : Type} {p : α → Bool} : ∀ {zs : List α}, (∀ k ∈ zs, p k = true) → zs.filter p = zs
  | [], _ => rfl
  | x :: r, h => by rw [List.filter_cons, if_pos (h x List.mem_cons_self), all_filter fun y hy => h y (List.mem_cons_of_mem _ hy)]
theorem Tal.count {α β : Type} {l : Int} {ks : List α} {P : α → Prop} {R : α → β → Prop} {bs : List β} {q : β → Bool} (h : Tal l ks P) (pr : Paired R ks bs) (f : ∀ a b, R a b → P a → q b = true) : l ≤ ((bs.filter q).length : Int) := by
  obtain ⟨zs, rest, pm, ll, hz⟩ := h
  have c : ∀ {ks : List α} {bs : List β}, Paired R ks bs → (ks.filter fun k => @decide (P k) (Classical.propDecidable _)).length ≤ (bs.filter q).length := by
    intro ks bs pr
    induction pr with
    | nil => exact Nat.le_refl _
    | @cons a b xs ys r _ ih =>
      rw [List.filter_cons, List.filter_cons]
      by_cases e : P a
      · rw [if_pos (by simp [e]), if_pos (f a b r e)]
        exact Nat.succ_le_succ ih
      · rw [if_neg (by simp [e])]
        split
        · exact Nat.le_succ_of_le ih
        · exact ih
  have d := c pr
  rw [← (pm.filter _).length_eq, List.filter_append, List.length_append, all_filter (zs := zs) fun k hk => by simp [hz k hk]] at d
  omega
end My
namespace My
open PySem PySem.Spec PyProof.Rows L2
abbrev Crs := List (Int × List Addr)
def rowAt (G : Hp) (k : Addr) : Addr := match G k with
  | some (.lst [_, _, _, .ref r]) => r
  | _ => k
/-- the crews, as they stay -/
structure Cst (τ : Addr → Option Kd) (T : Crs) (ρ : Addr → Addr) : Prop where
  kp : ∀ (t : Nat) (l : Int) (ks : List Addr) (k : Addr), T[t]? = some (l, ks) → k ∈ ks → τ k = some .kep ∧ τ (ρ k) = some .row
  inj : ∀ (t t' : Nat) (l l' : Int) (ks ks' : List Addr) (j j' : Nat) (k k' : Addr), T[t]? = some (l, ks) → T[t']? = some (l', ks') → ks[j]? = some k → ks'[j']? = some k' → ρ k = ρ k' → t = t' ∧ j = j'
def AtT (τ : Addr → Option Kd) (F : Hp) (as : List Addr) (T : Crs) : Prop := ∀ (t : Nat) (x : Addr), as[t]? = some x → ∃ (l : Int) (c : Addr) (ks : List Addr), T[t]? = some (l, ks) ∧ τ x = some .team ∧ τ c = some .crew ∧ F x = some (.lst [.int l, .ref c]) ∧ F c = some (.lst (ks.map V.ref))
theorem AtT.keep {τ : Addr → Option Kd} {F F' : Hp} {as : List Addr} {T : Crs} (h : AtT τ F as T) (k : ∀ a, (τ a = some .team ∨ τ a = some .crew) → F' a = F a) : AtT τ F' as T := fun t x e => by
  obtain ⟨l, c, ks, e1, e2, e3, e4, e5⟩ := h t x e
  exact ⟨l, c, ks, e1, e2, e3, (k x (.inl e2)).trans e4, (k c (.inr e3)).trans e5⟩
structure Liv (T : Crs) (ρ : Addr → Addr) (κ : Str → Nat) (ws : List Str) (F : Hp) (i : Nat) (D : Addr → Prop) (S : Addr → Has) : Prop where
  co : ∀ (t : Nat) (l : Int) (ks : List Addr) (k : Addr), T[t]? = some (l, ks) → k ∈ ks → ∃ (z : V) (room : Int), F k = some (.lst [z, .int room, .bl (S k).1, .ref (ρ k)]) ∧ 1 ≤ room ∧ F (ρ k) = some (.lst ((S k).2.map V.str))
  r1 : ∀ (t : Nat) (l : Int) (ks : List Addr) (k : Addr), T[t]? = some (l, ks) → k ∈ ks → RowOk κ ws (i + 1) (S k)
  r0 : ∀ (t : Nat) (l : Int) (ks : List Addr) (k : Addr), T[t]? = some (l, ks) → k ∈ ks → ¬ D k → RowOk κ ws i (S k)
  pa : ∀ (m : Nat) (wm : Str), m < i → ws[m]? = some wm → ∀ (t : Nat) (l : Int) (ks : List Addr), T[t]? = some (l, ks) → Tal l ks fun k => Good κ wm (S k)
section
variable {τ : Addr → Option Kd} {T : Crs} {ρ : Addr → Addr} {κ : Str → Nat} {ws : List Str} {F F' : Hp} {i : Nat} {D D' : Addr → Prop} {S : Addr → Has}
theorem Liv.keep (h : Liv T ρ κ ws F i D S) (C : Cst τ T ρ) (k : ∀ a, (τ a = some .kep ∨ τ a = some .row) → F' a = F a) : Liv T ρ κ ws F' i D S := ⟨fun t l ks x e m => by
  obtain ⟨z, room, e1, e2, e3⟩ := h.co t l ks x e m
  obtain ⟨c1, c2⟩ := C.kp t l ks x e m
  exact ⟨z, room, (k _ (.inl c1)).trans e1, e2, (k _ (.inr c2)).trans e3⟩, h.r1, h.r0, h.pa⟩
theorem Cst.one (C : Cst τ T ρ) {t : Nat} {l : Int} {ks : List Addr} (e : T[t]? = some (l, ks)) : ks.Nodup := by
  refine List.pairwise_iff_getElem.mpr fun a b al bl ab q => ?_
  have eb : ks[b]? = some ks[b] := List.getElem?_eq_getElem bl
  have ea : ks[a]? = some ks[a] := List.getElem?_eq_getElem al
  have := (C.inj t t l l ks ks a b _ _ e e ea eb (by rw [q])).2
  omega
theorem Cst.apart (C : Cst τ T ρ) {t t' : Nat} {l l' : Int} {ks ks' : List Addr} {k k' : Addr} (e : T[t]? = some (l, ks)) (e' : T[t']? = some (l', ks')) (h : k ∈ ks) (h' : k' ∈ ks') (n : k ≠ k' ∨ t ≠ t') : ρ k ≠ ρ k' := fun q => by
  obtain ⟨j, hj⟩ := List.mem_iff_getElem?.mp h
  obtain ⟨j', hj'⟩ := List.mem_iff_getElem?.mp h'
  obtain ⟨a, b⟩ := C.inj t t' l l' ks ks' j j' k k' e e' hj hj' q
  rcases n with n | n
  · subst a
    subst b
    rw [e] at e'
    cases e'
    rw [hj] at hj'
    exact n (Option.some.inj hj')
  · exact n a
def tellS (S : Addr → Has) (y : Addr) (p : Has) : Addr → Has := fun k => if k = y then p else S k
theorem tellS_same {y : Addr} {p : Has} : tellS S y p y = p := if_pos rfl
theorem tellS_ne {y k : Addr} {p : Has} (h : k ≠ y) : tellS S y p k = S k := if_neg h
theorem Liv.tell (h : Liv T ρ κ ws F i D S) (C : Cst τ T ρ) (hκ : ∀ (m : Nat) (z : Str), ws[m]? = some z → κ z = m) {t : Nat} {l : Int} {ks : List Addr} {y : Addr} (e : T[t]? = some (l, ks)) (hy : y ∈ ks) (nd : ¬ D y) {wd : Str} (hw : ws[i]? = some wd) {z : V} {room : Int} (r1 : 1 ≤ room)
    (f1 : F' y = some (.lst [z, .int room, .bl (tellK room wd (S y)).1, .ref (ρ y)])) (f2 : F' (ρ y) = some (.lst ((tellK room wd (S y)).2.map V.str))) (f3 : ∀ a, a ≠ y → a ≠ ρ y → F' a = F a) :
    Liv T ρ κ ws F' i (fun k => D k ∨ k = y) (tellS S y (tellK room wd (S y))) := by
  have wm := List.mem_of_getElem? hw
  have kd := hκ i wd hw
  have ry := h.r0 t l ks y e hy nd
  refine ⟨fun t' l' ks' k e' hk => ?_, fun t' l' ks' k e' hk => ?_, fun t' l' ks' k e' hk nk => ?_, fun m z' lm ez t' l' ks' e' => ?_⟩
  · by_cases q : k = y
    · subst q
      rw [tellS_same]
      exact ⟨z, room, f1, r1, f2⟩
    · rw [tellS_ne q]
      obtain ⟨z', room', e1, e2, e3⟩ := h.co t' l' ks' k e' hk
      obtain ⟨c1, c2⟩ := C.kp t' l' ks' k e' hk
      obtain ⟨d1, d2⟩ := C.kp t l ks y e hy
      refine ⟨z', room', (f3 k q fun a => ?_).trans e1, e2, (f3 (ρ k) (fun a => ?_) (C.apart e' e hk hy (.inl q))).trans e3⟩
      · rw [a, d2] at c1
        cases c1
      · rw [a, d1] at c2
        cases c2
  · by_cases q : k = y
    · subst q
      rw [tellS_same]
      exact ry.tell kd wm
    · rw [tellS_ne q]
      exact h.r1 t' l' ks' k e' hk
  · have q : k ≠ y := fun q => nk (.inr q)
    rw [tellS_ne q]
    exact h.r0 t' l' ks' k e' hk fun d => nk (.inl d)
  · refine (h.pa m z' lm ez t' l' ks' e').mono fun k _ g => ?_
    by_cases q : k = y
    · subst q
      rw [tellS_same]
      exact good_old r1 ry kd (by rw [hκ m z' ez]; exact lm) g
    · rw [tellS_ne q]
      exact g
theorem Liv.turn (h : Liv T ρ κ ws F i D S) {wd : Str} (hw : ws[i]? = some wd) (tl : ∀ (t : Nat) (l : Int) (ks : List Addr), T[t]? = some (l, ks) → Tal l ks fun k => Good κ wd (S k)) : Liv T ρ κ ws F (i + 1) (fun _ => False) S :=
  ⟨h.co, fun t l ks k e hk => (h.r1 t l ks k e hk).more (Nat.le_succ _), fun t l ks k e hk _ => h.r1 t l ks k e hk, fun m z lm ez t l ks e => by
    rcases Nat.lt_or_eq_of_le (Nat.le_of_lt_succ lm) with q | q
    · exact h.pa m z q ez t l ks e
    · subst q
      rw [hw] at ez
      cases ez
      exact tl t l ks e⟩
theorem Liv.less (h : Liv T ρ κ ws F i D S) (q : ∀ k, D k → D' k) : Liv T ρ κ ws F i D' S := ⟨h.co, h.r1, fun t l ks k e hk n => h.r0 t l ks k e hk fun d => n (q k d), h.pa⟩
end
theorem ix_find {ws : List Str} (nd : ws.Nodup) : ∀ (m : Nat) (z : Str), ws[m]? = some z → (ws.findIdx fun x => decide (x = z)) = m := fun m z e => by
  obtain ⟨ml, ez⟩ := List.getElem?_eq_some_iff.mp e
  have hx : ∃ x ∈ ws, (fun x => decide (x = z)) x = true := ⟨z, List.mem_of_getElem? e, by simp⟩
  have lt := List.findIdx_lt_length_of_exists hx
  have g := List.findIdx_getElem (w := lt)
  have g := of_decide_eq_true g
  have := (List.getElem?_inj (i := ws.findIdx fun x => decide (x = z)) (j := m) lt nd).mp (by rw [e, List.getElem?_eq_getElem lt, g])
  exact this
/-- as teams leaves them -/
theorem crews_start {τ : Addr → Option Kd} {G : Hp} {as : List Addr} (t : THp τ G) (oka : ∀ a ∈ as, τ a = some .team) (R : Rowed τ G as) (κ : Str → Nat) (ws : List Str) :
    ∃ (T : Crs) (ρ : Addr → Addr) (S : Addr → Has), Cst τ T ρ ∧ T.length = as.length ∧ AtT τ G as T ∧ Liv T ρ κ ws G 0 (fun _ => False) S := by
  obtain ⟨ν, μ, cs, L, em, ct, hc⟩ := R
  obtain ⟨T, pT⟩ := paired_ex (R := fun x (q : Int × List Addr) => ∃ c, τ x = some .team ∧ τ c = some .crew ∧ G x = some (.lst [.int q.1, .ref c]) ∧ G c = some (.lst (q.2.map V.ref)) ∧ ∀ k ∈ q.2, τ k = some .kep) (xs := as) fun x hx => by
    obtain ⟨l, c, ks, e1, e2, e3, _, _⟩ := t.team x (oka x hx)
    obtain ⟨ks', e4, e5, _⟩ := t.crew c e2
    have := refs_inj e3 e4
    subst this
    exact ⟨(l, ks), c, oka x hx, e2, e1, e3, e5⟩
  have tl := pT.length
  have info : ∀ {k : Addr}, τ k = some .kep → ∃ (z : Str) (room : Int) (wh : Bool), G k = some (.lst [.str z, .int room, .bl wh, .ref (rowAt G k)]) ∧ 1 ≤ room ∧ τ (rowAt G k) = some .row ∧ G (rowAt G k) = some (.lst []) := fun {k} hk => by
    obtain ⟨z, room, wh, r, e, _, _, r1, _, tr, _⟩ := t.kep k hk
    have er : rowAt G k = r := by
      unfold rowAt
      rw [e]
    rw [er]
    exact ⟨z, room, wh, e, r1, tr, em r tr⟩
  have mem : ∀ {t : Nat} {l : Int} {ks : List Addr}, T[t]? = some (l, ks) → ∃ x c, as[t]? = some x ∧ G x = some (.lst [.int l, .ref c]) ∧ G c = some (.lst (ks.map V.ref)) ∧ ∀ k ∈ ks, τ k = some .kep := fun {t l ks} e => by
    have lt : t < as.length := by
      have := (List.getElem?_eq_some_iff.mp e).1
      omega
    obtain ⟨q, e', c, _, _, e1, e2, e3⟩ := paired_at pT (List.getElem?_eq_getElem lt)
    rw [e] at e'
    cases e'
    exact ⟨_, c, List.getElem?_eq_getElem lt, e1, e2, e3⟩
  refine ⟨T, rowAt G, fun k => (match G k with | some (.lst [_, _, .bl b, _]) => b | _ => true, []), ⟨fun t l ks k e hk => ?_, fun t t' l l' ks ks' j j' k k' e e' hj hj' q => ?_⟩, tl.symm, fun t x e => ?_, ⟨fun t l ks k e hk => ?_, fun t l ks k e hk => ⟨List.Pairwise.nil, (fun x h => nomatch h), fun x h => nomatch h⟩, fun t l ks k e hk _ => ⟨List.Pairwise.nil, (fun x h => nomatch h), fun x h => nomatch h⟩, fun m z lm => absurd lm (Nat.not_lt_zero m)⟩⟩
  · obtain ⟨x, c, _, _, _, kk⟩ := mem e
    have := info (kk k hk)
    obtain ⟨_, _, _, _, _, tr, _⟩ := this
    exact ⟨kk k hk, tr⟩
  · have key : ∀ {t : Nat} {l : Int} {ks : List Addr} {j : Nat} {k : Addr}, T[t]? = some (l, ks) → ks[j]? = some k → ν (rowAt G k) = (t, j) := fun {t l ks j k} e hj => by
      obtain ⟨x, c, ex, e1, e2, kk⟩ := mem e
      obtain ⟨z, room, wh, ek, _⟩ := info (kk k (List.mem_of_getElem? hj))
      obtain ⟨c', l', ec, ex'⟩ := hc t x ex
      rw [e1] at ex'
      cases ex'
      exact L.n t c ks j k _ _ _ _ ec e2 hj ek
    have h1 := key e hj
    have h2 := key e' hj'
    rw [q, h2] at h1
    cases h1
    exact ⟨rfl, rfl⟩
  · obtain ⟨q, e', c, e1, e2, e3, e4, _⟩ := paired_at pT e
    exact ⟨q.1, c, q.2, e', e1, e2, e3, e4⟩
  · obtain ⟨x, c, _, _, _, kk⟩ := mem e
    obtain ⟨z, room, wh, ek, r1, tr, er⟩ := info (kk k hk)
    refine ⟨.str z, room, ?_, r1, er⟩
    rw [ek]
end My
namespace My
open PySem PySem.Spec PyProof.Rows L2
/-- a board, typed, new -/
structure Hall (τ : Addr → Option Kd) (H0 G : Hp) (j p : Addr) (as : List Addr) : Prop where
  t : FT τ G
  nt : Nt τ H0 j
  h : G p = some (.lst (as.map V.ref))
  np : New1 H0 j p
  up : τ p = none
  ok : ∀ a ∈ as, τ a = some .team
  l : as.length ≤ 3 ∧ 1 ≤ as.length
def KR (H F : Hp) (P : Addr → Prop) (k d : Addr) : Prop := ∃ (z : Str) (room : Int) (wh : Bool) (r : Addr) (rs : List Str) (wh' : Bool) (r' : Addr), H k = some (.lst [.str z, .int room, .bl wh, .ref r]) ∧ H r = some (.lst (rs.map V.str)) ∧ F d = some (.tup [.str z, .int room, .bl wh', .ref r']) ∧ F r' = some (.lst (rs.map V.str)) ∧ (wh' = true → wh = true) ∧ P d ∧ P r'
def TR (H F : Hp) (P : Addr → Prop) (x f : Addr) : Prop := ∃ (l : Int) (c : Addr) (ks : List Addr) (D : Addr) (ds : List Addr), H x = some (.lst [.int l, .ref c]) ∧ H c = some (.lst (ks.map V.ref)) ∧ F f = some (.tup [.int l, .ref D]) ∧ F D = some (.lst (ds.map V.ref)) ∧ Paired (KR H F P) ks ds ∧ P f ∧ P D
theorem KR.keep {H F F' : Hp} {P P' : Addr → Prop} (s : ∀ a, P a → F' a = F a ∧ P' a) {k d : Addr} (h : KR H F P k d) : KR H F' P' k d := by
  obtain ⟨z, room, wh, r, rs, wh', r', e1, e2, e3, e4, e5, e6, e7⟩ := h
  exact ⟨z, room, wh, r, rs, wh', r', e1, e2, (s d e6).1.trans e3, (s r' e7).1.trans e4, e5, (s d e6).2, (s r' e7).2⟩
theorem TR.keep {H F F' : Hp} {P P' : Addr → Prop} (s : ∀ a, P a → F' a = F a ∧ P' a) {x f : Addr} (h : TR H F P x f) : TR H F' P' x f := by
  obtain ⟨l, c, ks, D, ds, e1, e2, e3, e4, e5, e6, e7⟩ := h
  exact ⟨l, c, ks, D, ds, e1, e2, (s f e6).1.trans e3, (s D e7).1.trans e4, L2.Paired.mapP e5 fun _ _ q => q.keep s, (s f e6).2, (s D e7).2⟩
/-- a copy, never more whole -/
def Fro (H F : Hp) (as fs : List Addr) : Prop := Paired (TR H F fun _ => True) as fs
theorem keep_dipF {φ : Addr → Option Kd} {H0 G G' : Hp} {j : Addr} (t : FT φ G) (nt : Nt φ H0 j) (x : Ex1 j G G') : ∀ a, φ a ≠ none → G' a = G a := fun a h => by
  cases e : G a with
  | none => exact absurd e (t.some_ h)
  | some o => exact x a o (nt a h).2 e
def spFrozen : Sp := fun vs H Q _ => ∃ (H0 : Hp) (j p : Addr) (as : List Addr) (τ : Addr → Option Kd) (n : Nat), vs = [.ref j, .ref p] ∧ Crews τ H0 H j p as ∧ Ms H0 H j n ∧ n + 100 ≤ 1000000000 ∧
  ∀ (q : Addr) (fs : List Addr) (φ : Addr → Option Kd) (H' : Hp), Hall φ H0 H' j q fs → Fro H H' as fs → Ms H0 H' j (n + 100) → Q (.ref q) H'
section
variable {P : Program} {w : World} {K : PySem.W.Frag} {mg : Str → Option Value} {base : Heap} {A : Ad}
theorem ok_frozen (T : Txt K mg A) : FnOk P w K mg base CX0 2 A.f_frozen A.d_frozen P_frozen spFrozen := by
  refine T.F_frozen.ok sc_frozen (fun vs H Q E h => ?_) (fun cdv A' outer s H vs Q E hr h => ?_)
  · obtain ⟨H0, j, p, as, τ, n, rfl, _⟩ := h
    rfl
  · obtain ⟨H0, j, p, as, τ, n, rfl, ⟨t0, ntt, hp, Np, up, oka, l3⟩, s0, n9, k⟩ := h
    refine ⟨_, (pss_cons (ps_set (i := 2) sc_frozen.nd rfl (Or.inl rfl) (pe_lst pa_nil))
    (pss_cons (ps_for PassesOwn.never rfl (pi_listK (K := K) rfl (pv 1)) (pg_lst rfl (pgs_cons (pg_name (i := 3) sc_frozen.nd rfl (Or.inl rfl)) (pgs_cons (pg_name (i := 4) sc_frozen.nd rfl (Or.inl rfl)) pgs_nil)))
      (pss_cons (ps_set (i := 5) sc_frozen.nd rfl (Or.inl rfl) (pe_lst pa_nil))
      (pss_cons (ps_for PassesOwn.never rfl (pi_listK (K := K) rfl (pv 4)) (pg_lst rfl (pgs_cons (pg_name (i := 6) sc_frozen.nd rfl (Or.inl rfl)) (pgs_cons (pg_name (i := 7) sc_frozen.nd rfl (Or.inl rfl)) (pgs_cons (pg_name (i := 8) sc_frozen.nd rfl (Or.inl rfl)) (pgs_cons (pg_name (i := 9) sc_frozen.nd rfl (Or.inl rfl)) pgs_nil)))))
        (pss_cons (ps_set (i := 10) sc_frozen.nd rfl (Or.inl rfl) (pe_and (pv 8) (pe_one (pe_or (pe_cmpR op_lt (pe_callB (len_seqK (K := K) rfl) (by rfl) T.n_len PySem.boot_len (pa_cons (pv 9) pa_nil)) (pv 7) (nomark _)) (pe_one (pe_cmpR op_gt (pe_call (ok_dip T) (hr.mono (by decide)) rfl T.g_dip T.F_dip.kp T.b_dip .nil pass0 (pa_cons (pv 0) (pa_cons pe_int pa_nil))) pe_int (nomark _)))))))
        (pss_one (ps_expr (pe_K (K := K) rfl (pe_bm PySem.F.plainAttrs_list PySem.F.slot_list_append PySem.F.type_list_append mt_append (by exact (pv 5)) (by exact (pa_cons (pe_tup (pa_cons (pv 6) (pa_cons (pv 7) (pa_cons (pv 10) (pa_cons (pe_callTy (list_ofK (K := K) rfl) (by rfl) T.n_list (by decide +kernel) (pa_cons (pv 9) pa_nil)) pa_nil))))) pa_nil))))))))
      (pss_one (ps_expr (pe_K (K := K) rfl (pe_bm PySem.F.plainAttrs_list PySem.F.slot_list_append PySem.F.type_list_append mt_append (by exact (pv 2)) (by exact (pa_cons (pe_tup (pa_cons (pv 3) (pa_cons (pv 5) pa_nil))) pa_nil)))))))))
    (pss_one (ps_ret (pv 2))))), ?_⟩
    refine ⟨(show 0 ≤ sizeLine by decide), fun f nf => ?_⟩
    have Nf := s0.fresh nf
    have pf : p ≠ f := ne_of_none hp nf
    refine ⟨_, rfl, p, rfl, ⟨_, SqL.of ((upd_ne pf).trans hp)⟩, for_list (K := K) (a := p) (xs := as.map V.ref) (fun i σ G => ∃ (φ : Addr → Option Kd) (fs : List Addr) (v3 v4 v5 v6 v7 v8 v9 va : Option V), σ = [some (.ref j), some (.ref p), some (.ref f), v3, v4, v5, v6, v7, v8, v9, va] ∧ FT φ G ∧ Nt φ H0 j ∧ THp τ G ∧ Ms H0 G j (n + 9 * i) ∧
        (∀ c, φ c ≠ none → τ c = none) ∧ φ p = none ∧ φ f = none ∧ τ f = none ∧ G p = some (.lst (as.map V.ref)) ∧ G f = some (.lst (fs.map V.ref)) ∧ fs.length = i ∧ (∀ a ∈ fs, φ a = some .team) ∧ (∀ a, τ a ≠ none → G a = H a) ∧ Paired (TR H G fun a => φ a ≠ none) (as.take i) fs)
      ⟨fun _ => none, [], none, none, none, none, none, none, none, none, rfl, ⟨fun a e => (nomatch e), fun a e => (nomatch e), fun a e => (nomatch e), fun a e => (nomatch e)⟩, fun c h => absurd rfl h, t0.new nf, s0.put Nf, fun c h => absurd rfl h, rfl, rfl, t0.untyped nf, (upd_ne pf).trans hp, upd_same, rfl, (fun a h => nomatch h), keep_new (t0.untyped nf), .nil⟩
      (fun i σ G _ z => by obtain ⟨φ, fs, v3, v4, v5, v6, v7, v8, v9, va, _, _, _, _, _, _, _, _, _, z, _⟩ := z; exact SqL.of z) ?_ ?_⟩
    · rintro i x σ G hi ⟨φ, fs, v3, v4, v5, v6, v7, v8, v9, va, rfl, ft, ntf, t, sG, dj, fp, ff, uf, hp, hf, lf, okf, kH0, pT⟩
      obtain ⟨x, ex, rfl⟩ := item_ref hi
      have il : i < as.length := (List.getElem?_eq_some_iff.mp ex).1
      obtain ⟨le, c, ks, hx, tc, hc, l0, l1⟩ := t.team x (oka x (List.mem_of_getElem? ex))
      obtain ⟨ks', hc', kok, k8⟩ := t.crew c tc
      have : ks = ks' := by
        have m : ks.map V.ref = ks'.map V.ref := HO.lst.inj (Option.some.inj (hc.symm.trans hc'))
        exact (List.map_inj_right fun a b z => V.ref.inj z).mp m
      subst this
      refine ⟨x, _, rfl, SqL.of hx, rfl, _, _, rfl, _, _, rfl, rfl, ?_⟩
      refine ⟨(show 0 ≤ sizeLine by decide), fun D nD => ?_⟩
      have ND := sG.fresh nD
      have pD : p ≠ D := ne_of_none hp nD
      have fD : f ≠ D := ne_of_none hf nD
      have cD : c ≠ D := ne_of_none hc nD
      have ftD := ft.grow (k := .crew) (o := .lst []) nD (fun z => nomatch z) (fun z => nomatch z) (fun _ => rfl) (fun z => nomatch z)
      refine ⟨_, rfl, c, rfl, ⟨_, SqL.of ((upd_ne cD).trans hc)⟩, for_list (K := K) (a := c) (xs := ks.map V.ref) (fun i2 σ F => ∃ (φ1 : Addr → Option Kd) (ds : List Addr) (v6 v7 v8 v9 va : Option V), σ = [some (.ref j), some (.ref p), some (.ref f), some (.int le), some (.ref c), some (.ref D), v6, v7, v8, v9, va] ∧ FT φ1 F ∧ Nt φ1 H0 j ∧ THp τ F ∧ Ms H0 F j (n + 9 * i + i2) ∧
          (∀ c, φ1 c ≠ none → τ c = none) ∧ φ1 p = none ∧ φ1 f = none ∧ φ1 D = some .crew ∧ F p = some (.lst (as.map V.ref)) ∧ F f = some (.lst (fs.map V.ref)) ∧ (∀ a ∈ fs, φ1 a = some .team) ∧ F c = some (.lst (ks.map V.ref)) ∧ F D = some (.lst (ds.map V.ref)) ∧ ds.length = i2 ∧ (∀ a, τ a ≠ none → F a = H a) ∧ (∀ a, φ a ≠ none → F a = G a ∧ φ1 a ≠ none ∧ a ≠ D) ∧ Paired (KR H F fun a => φ1 a ≠ none ∧ a ≠ D) (ks.take i2) ds)
        ⟨_, [], v6, v7, v8, v9, va, rfl, ftD, ntf.tx ND, t.new nD, sG.put ND, ?_, (tx_ne pD).trans fp, (tx_ne fD).trans ff, tx_same, (upd_ne pD).trans hp, (upd_ne fD).trans hf, fun a h => tx_old (ft.untyped nD) (okf a h), (upd_ne cD).trans hc, upd_same, rfl, (fun a h => (keep_new (t.untyped nD) a h).trans (kH0 a h)), (fun a h => have ne : a ≠ D := fun e => h (by rw [e]; exact ft.untyped nD); ⟨upd_ne ne, by rw [tx_ne ne]; exact h, ne⟩), .nil⟩
        (fun i σ G _ z => by obtain ⟨φ, ds, v6, v7, v8, v9, va, _, _, _, _, _, _, _, _, _, _, _, _, z, _⟩ := z; exact SqL.of z) ?_ ?_⟩
      · intro c' h
        by_cases e : c' = D
        · rw [e]
          exact t.untyped nD
        · rw [tx_ne e] at h
          exact dj c' h
      · rintro i2 y σ F hj ⟨φ1, ds, v6, v7, v8, v9, va, rfl, ft, ntf, t, sF, dj, fp, ff, fD', hp, hf, okf, hc, hD, ld, kH, kG, pK⟩
        obtain ⟨y, ey, rfl⟩ := item_ref hj
        have jl : i2 < ks.length := (List.getElem?_eq_some_iff.mp ey).1
        obtain ⟨z, room, wh, r, hy, z8, z1, r1, r12, tr, wr⟩ := t.kep y (kok y (List.mem_of_getElem? ey))
        obtain ⟨ws, hr0, w8, l12⟩ := t.row r tr
        refine ⟨y, _, rfl, SqL.of hy, rfl, _, _, rfl, _, _, rfl, _, _, rfl, _, _, rfl, rfl, ?_⟩
        refine seq_mid (fun σ' G' => ∃ (wb : Bool) (v8 : Option V), σ' = [some (.ref j), some (.ref p), some (.ref f), some (.int le), some (.ref c), some (.ref D), some (.str z), some (.int room), v8, some (.ref r), some (.bl wb)] ∧ Ex1 j F G' ∧ Jug G' j (n + 9 * i + i2 + 1) ∧ (wb = false → ws ≠ []) ∧ (wb = true → wh = true)) (fun N hN => ?_) ?_
        · refine ⟨_, rfl, wh, rfl, ?_⟩
          cases hw : wh with
          | false => exact iteF (hN _ _ ⟨false, _, rfl, Ex1.refl _ _, sF.jg.more (by omega), (fun _ e => wr hw (by rw [hr0, e]; rfl)), fun e => nomatch e⟩)
          | true =>
            refine iteT ?_
            refine ⟨_, rfl, r, _, rfl, .inl (SqL.of hr0), _, rfl, _, _, rfl, rfl, _, rfl, ?_⟩
            by_cases lt : ((ws.map V.str).length : Int) < room
            · rw [decide_eq_true lt]
              exact iteT (hN _ _ ⟨true, _, rfl, Ex1.refl _ _, sF.jg.more (by omega), (fun e => nomatch e), fun _ => hw⟩)
            · rw [decide_eq_false lt]
              refine iteF ?_
              rw [List.length_map] at lt
              refine ⟨_, rfl, j, 3, _, rfl, sF.jg, by omega, by decide, by decide, fun rr G1 r0 r1' j1 x1 => ?_⟩
              refine ⟨_, _, rfl, rfl, hN _ _ ⟨_, _, rfl, x1, j1, fun _ e => ?_, fun _ => hw⟩⟩
              rw [e] at lt
              exact lt (by show (0 : Int) < room; omega)
        · rintro σ' G' ⟨wb, v8', rfl, x1, j1, wbr, wbt⟩
          have sG' := sF.dip j1 x1
          have ft1 := ft.dip ntf x1
          have t1 := t.dip ntt x1
          have hD1 := x1 D _ ND.2 hD
          have hp1 := x1 p _ Np.2 hp
          have hf1 := x1 f _ Nf.2 hf
          have hc1 := x1 c _ (ntt.of tc).2 hc
          have hr1 := x1 r _ (ntt.of tr).2 hr0
          refine ⟨_, rfl, .inl ⟨rfl, _, SqL.of hD1⟩, _, rfl, _, rfl, _, rfl, _, rfl, r, _, rfl, .inl (SqL.of hr1), fun l nl => ?_⟩
          have Nl := sG'.fresh nl
          have ftl := ft1.grow (k := .row) (o := .lst (ws.map V.str)) nl (fun _ => ⟨ws, rfl, w8, l12⟩) (fun z => nomatch z) (fun z => nomatch z) (fun z => nomatch z)
          have hl : upd G' l (.lst (ws.map V.str)) l = some (.lst (ws.map V.str)) := upd_same
          refine ⟨(show 4 ≤ sizeLine by decide), fun q nq => ?_⟩
          have lq : l ≠ q := ne_of_none hl nq
          have Nq := (sG'.put (o := .lst (ws.map V.str)) Nl).fresh nq
          have ftq := ftl.grow (k := .kep) (o := .tup [.str z, .int room, .bl wb, .ref l]) nq (fun z => nomatch z) (fun _ => ⟨z, room, wb, l, rfl, z8, z1, r1, r12, tx_same, fun e q2 => ?_⟩) (fun z => nomatch z) (fun z => nomatch z)
          rotate_left
          · rw [hl] at q2
            have q3 := HO.lst.inj (Option.some.inj q2)
            exact wbr e (List.map_eq_nil_iff.mp q3)
          have nq0 : G' q = none := by
            rw [upd_ne lq.symm] at nq
            exact nq
          have Dl : D ≠ l := ne_of_none hD1 nl
          have pl : p ≠ l := ne_of_none hp1 nl
          have fl : f ≠ l := ne_of_none hf1 nl
          have cl : c ≠ l := ne_of_none hc1 nl
          have Dq : D ≠ q := ne_of_none hD1 nq0
          have pq : p ≠ q := ne_of_none hp1 nq0
          have fq : f ≠ q := ne_of_none hf1 nq0
          have cq : c ≠ q := ne_of_none hc1 nq0
          have hD2 : upd (upd G' l (.lst (ws.map V.str))) q (.tup [.str z, .int room, .bl wb, .ref l]) D = some (.lst (ds.map V.ref)) := by
            rw [upd_ne Dq, upd_ne Dl]
            exact hD1
          refine ⟨D, _, _, rfl, rfl, hD2, by rw [List.length_map, ld]; exact lt_size (m := 101) (by omega) (by decide), ?_⟩
          have ftj := ftq.join (c := D) (k := q) (as := ds) ((tx_ne Dq).trans ((tx_ne Dl).trans fD')) hD2 tx_same (by omega)
          rw [List.map_append] at ftj
          have uD : τ D = none := dj D (by rw [fD']; simp)
          refine ⟨_, ds ++ [q], _, _, _, _, _, rfl, ftj, (ntf.tx Nl).tx Nq, ((t1.new nl).new nq).put uD, (((sG'.put Nl).put Nq).put ND).more (by omega), ?_, (tx_ne pq).trans ((tx_ne pl).trans fp), (tx_ne fq).trans ((tx_ne fl).trans ff), (tx_ne Dq).trans ((tx_ne Dl).trans fD'), ?_, ?_, fun a h => tx_old (ftl.untyped nq) (tx_old (ft1.untyped nl) (okf a h)), ?_, by rw [upd_same, List.map_append]; rfl, by rw [List.length_append, ld]; rfl, fun a h => ?_, fun a h => ?_, ?_⟩
          · intro c' h
            by_cases e : c' = q
            · rw [e]
              exact t1.untyped nq0
            · rw [tx_ne e] at h
              by_cases e2 : c' = l
              · rw [e2]
                exact t1.untyped nl
              · rw [tx_ne e2] at h
                exact dj c' h
          · rw [upd_ne pD, upd_ne pq, upd_ne pl]
            exact hp1
          · rw [upd_ne fD, upd_ne fq, upd_ne fl]
            exact hf1
          · rw [upd_ne cD, upd_ne cq, upd_ne cl]
            exact hc1
          · rw [upd_ne (fun e => h (by rw [e]; exact uD)), upd_ne (fun e => h (by rw [e]; exact t1.untyped nq0)), upd_ne (fun e => h (by rw [e]; exact t1.untyped nl))]
            exact (keep_dip t ntt x1 a h).trans (kH a h)
          · obtain ⟨g1, g2, g3⟩ := kG a h
            have al : a ≠ l := fun e => g2 (by rw [e]; exact ft1.untyped nl)
            have aq : a ≠ q := fun e => g2 (by rw [e]; exact ft1.untyped nq0)
            refine ⟨?_, by rw [tx_ne aq, tx_ne al]; exact g2, g3⟩
            rw [upd_ne g3, upd_ne aq, upd_ne al]
            exact (keep_dipF ft ntf x1 a g2).trans g1
          · rw [List.take_succ, ey]
            refine paired_snoc (L2.Paired.mapP pK fun _ _ k => k.keep fun a h => ?_) ?_
            · obtain ⟨g2, g3⟩ := h
              have al : a ≠ l := fun e => g2 (by rw [e]; exact ft1.untyped nl)
              have aq : a ≠ q := fun e => g2 (by rw [e]; exact ft1.untyped nq0)
              refine ⟨?_, by rw [tx_ne aq, tx_ne al]; exact g2, g3⟩
              rw [upd_ne g3, upd_ne aq, upd_ne al]
              exact keep_dipF ft ntf x1 a g2
            · have ty := kok y (List.mem_of_getElem? ey)
              refine ⟨z, room, wh, r, ws, wb, l, (kH y (by rw [ty]; simp)).symm.trans hy, (kH r (by rw [tr]; simp)).symm.trans hr0, (upd_ne Dq.symm).trans upd_same, ?_, wbt, ⟨by rw [tx_same]; simp, Dq.symm⟩, by rw [tx_ne lq, tx_same]; simp, Dl.symm⟩
              rw [upd_ne Dl.symm, upd_ne lq]
              exact hl
      · rintro σ F ⟨φ1, ds, v6, v7, v8, v9, va, rfl, ft, ntf, t, sF, dj, fp, ff, fD', hp, hf, okf, hc, hD, ld, kH, kG, pK⟩
        refine ⟨_, rfl, .inl ⟨rfl, _, SqL.of hf⟩, _, rfl, _, rfl, (show 2 ≤ sizeLine by decide), fun q nq => ?_⟩
        have Nq := sF.fresh nq
        have fq : f ≠ q := ne_of_none hf nq
        have pq : p ≠ q := ne_of_none hp nq
        refine ⟨f, _, _, rfl, rfl, (upd_ne fq).trans hf, by rw [List.length_map, lf]; exact lt_size (m := 101) (by omega) (by decide), ?_⟩
        have ftq := ft.grow (k := .team) (o := .tup [.int le, .ref D]) nq (fun z => nomatch z) (fun z => nomatch z) (fun z => nomatch z) (fun _ => ⟨le, D, rfl, fD', l0, by omega⟩)
        refine ⟨Tx φ1 q .team, fs ++ [q], _, _, _, _, _, _, _, _, rfl, ftq.put ((tx_ne fq).trans ff), ntf.tx Nq, (t.new nq).put uf, ((sF.put Nq).put Nf).more (by rw [List.length_map]; omega), ?_, (tx_ne pq).trans fp, (tx_ne fq).trans ff, uf, by rw [upd_ne pf, upd_ne pq]; exact hp, by rw [upd_same, List.map_append]; rfl, by rw [List.length_append, lf]; rfl, fun a ha => ?_, fun a h => ?_, ?_⟩
        · intro c' h
          by_cases e : c' = q
          · rw [e]
            exact t.untyped nq
          · rw [tx_ne e] at h
            exact dj c' h
        · rcases List.mem_append.mp ha with h | h
          · exact tx_old (ft.untyped nq) (okf a h)
          · rw [List.mem_singleton.mp h]
            exact tx_same
        · rw [upd_ne (fun e => h (by rw [e]; exact uf)), upd_ne (fun e => h (by rw [e]; exact t.untyped nq))]
          exact kH a h
        · have up : ∀ a, φ1 a ≠ none → upd (upd F q (.tup [.int le, .ref D])) f (.lst (fs.map V.ref ++ [.ref q])) a = F a ∧ Tx φ1 q .team a ≠ none := fun a h => by
            have aq : a ≠ q := fun e => h (by rw [e]; exact ft.untyped nq)
            have af : a ≠ f := fun e => h (by rw [e]; exact ff)
            exact ⟨(upd_ne af).trans (upd_ne aq), by rw [tx_ne aq]; exact h⟩
          rw [List.take_succ, ex]
          refine paired_snoc (L2.Paired.mapP pT fun _ _ k => k.keep fun a h => ?_) ?_
          · obtain ⟨g1, g2, _⟩ := kG a h
            exact ⟨(up a g2).1.trans g1, (up a g2).2⟩
          · rw [List.length_map, List.take_of_length_le (Nat.le_refl _)] at pK
            refine ⟨le, c, ks, D, ds, (kH0 x (by rw [oka x (List.mem_of_getElem? ex)]; simp)).symm.trans hx, (kH c (by rw [tc]; simp)).symm.trans hc, (upd_ne fq.symm).trans upd_same, ((up D (by rw [fD']; simp)).1).trans hD, L2.Paired.mapP pK fun _ _ k => k.keep fun a h => up a h.1, by show Tx φ1 q .team q ≠ none; rw [tx_same]; simp, (up D (by rw [fD']; simp)).2⟩
    · rintro σ G ⟨φ, fs, v3, v4, v5, v6, v7, v8, v9, va, rfl, ft, ntf, t, sG, dj, fp, ff, uf, hp, hf, lf, okf, kH, pT⟩
      rw [List.length_map, List.take_of_length_le (Nat.le_refl _)] at pT
      exact ⟨_, rfl, k f fs φ G ⟨ft, ntf, hf, Nf, ff, okf, by rw [lf, List.length_map]; exact l3⟩ (L2.Paired.mapP pT fun _ _ k => k.keep fun a _ => ⟨rfl, trivial⟩) (sG.more (by rw [List.length_map]; omega))⟩
end
end My
namespace My
open PySem PySem.Spec PyProof.Rows L2
theorem Fro.same {H F F' : Hp} {as fs : List Addr} (s : Same F F') (h : Fro H F as fs) : Fro H F' as fs := L2.Paired.mapP h fun x f q => by
  obtain ⟨l, c, ks, D, ds, e1, e2, e3, e4, e5, e6, e7⟩ := q
  refine ⟨l, c, ks, D, ds, e1, e2, s _ _ e3, s _ _ e4, L2.Paired.mapP e5 fun k d q => ?_, e6, e7⟩
  obtain ⟨z, room, wh, r, rs, wh', r', e1, e2, e3, e4, e5, e6, e7⟩ := q
  exact ⟨z, room, wh, r, rs, wh', r', e1, e2, s _ _ e3, s _ _ e4, e5, e6, e7⟩
theorem paired_comp {α β γ : Type} {R : α → β → Prop} {S : β → γ → Prop} {xs : List α} {ys : List β} (h : Paired R xs ys) : ∀ {zs : List γ}, Paired S ys zs → Paired (fun x z => ∃ y, R x y ∧ S y z) xs zs := by
  induction h with
  | nil => intro zs h2; cases h2; exact .nil
  | cons r _ ih => intro zs h2; cases h2 with | cons s t => exact .cons ⟨_, r, s⟩ (ih t)
theorem paired_back {α β : Type} {R : α → β → Prop} {xs : List α} {ys : List β} (h : Paired R xs ys) : ∀ y ∈ ys, ∃ (i : Nat) (x : α), xs[i]? = some x ∧ x ∈ xs ∧ R x y := by
  induction h with
  | nil => intro y h; cases h
  | @cons a b xs ys r _ ih =>
    intro y hy
    rcases List.mem_cons.mp hy with e | e
    · rw [e]
      exact ⟨0, a, rfl, List.mem_cons_self, r⟩
    · obtain ⟨i, x, q1, q2, q3⟩ := ih y e
      exact ⟨i + 1, x, q1, List.mem_cons_of_mem _ q2, q3⟩
theorem strs_inj {xs ys : List Str} {o : Option HO} (h1 : o = some (.lst (xs.map V.str))) (h2 : o = some (.lst (ys.map V.str))) : xs = ys := by
  have m : xs.map V.str = ys.map V.str := HO.lst.inj (Option.some.inj (h1.symm.trans h2))
  exact (List.map_inj_right fun a b z => V.str.inj z).mp m
theorem lv_board {τ : Addr → Option Kd} {T : Crs} {ρ : Addr → Addr} {κ : Str → Nat} {ws : List Str} {F H' : Hp} {N : Nat} {D : Addr → Prop} {S : Addr → Has} {as fs : List Addr} {q : Addr} {bd : List Tm}
    (A : AtT τ F as T) (L : Liv T ρ κ ws F N D S) (hN : N = ws.length) (hκ : ∀ (m : Nat) (z : Str), ws[m]? = some z → κ z = m) (fro : Fro F H' as fs) (hq : H' q = some (.lst (fs.map V.ref))) (b : BdAt H' q bd) : LvB bd := by
  obtain ⟨fs', hq', pb⟩ := b
  have := refs_inj hq hq'
  subst this
  have pr := paired_comp fro pb
  -- each team
  have team : ∀ t ∈ bd, ∃ (i : Nat) (ks : List Addr), T[i]? = some (t.least, ks) ∧ Paired (fun k kp => kp.row = (S k).2 ∧ (kp.whole = true → (S k).1 = true)) ks t.ks := fun t ht => by
    obtain ⟨i, x, ex, _, f, ⟨l, c, ks, E, ds, e1, e2, e3, e4, pk, _, _⟩, c', as', h1, h2, pk'⟩ := paired_back pr t ht
    rw [e3] at h1
    cases h1
    have := refs_inj e4 h2
    subst this
    obtain ⟨l', c'', ks', eT, _, _, g1, g2⟩ := A i x ex
    rw [e1] at g1
    cases g1
    have := refs_inj e2 g2
    subst this
    refine ⟨i, ks, eT, ?_⟩
    have pc := paired_comp pk pk'
    have key : ∀ {xs : List Addr} {ys : List Kp}, (∀ k ∈ xs, k ∈ ks) → Paired (fun x z => ∃ y, KR F H' (fun _ => True) x y ∧ KpAt H' y z) xs ys → Paired (fun k kp => kp.row = (S k).2 ∧ (kp.whole = true → (S k).1 = true)) xs ys := fun {xs ys} hs h => by
      induction h with
      | nil => exact .nil
      | @cons a b xs ys r _ ih =>
        refine .cons ?_ (ih fun k hk => hs k (List.mem_cons_of_mem _ hk))
        obtain ⟨d, ⟨z, room, wh, r, rs, wh', r', e1, e2, e3, e4, e5, _, _⟩, r2, g1, g2⟩ := r
        obtain ⟨z', room', q1, _, q2⟩ := L.co i _ ks a eT (hs a List.mem_cons_self)
        rw [e3] at g1
        cases g1
        have er := strs_inj e4 g2
        have w1 := HO.lst.inj (Option.some.inj (e1.symm.trans q1))
        simp only [List.cons.injEq, V.bl.injEq, V.ref.injEq] at w1
        obtain ⟨_, _, w2, w3, _⟩ := w1
        rw [← w3] at q2
        have er2 := strs_inj e2 q2
        exact ⟨er.symm.trans er2, fun h => w2.symm.trans (e5 h)⟩
    exact key (fun k hk => hk) pc
  refine ⟨κ, fun t ht kp hk => ?_, fun t ht kp hk z hz t' ht' => ?_⟩
  · obtain ⟨i, ks, eT, pk⟩ := team t ht
    obtain ⟨_, k, _, km, er, _⟩ := paired_back pk kp hk
    rw [er]
    exact (L.r1 i _ ks k eT km).r
  · obtain ⟨i, ks, eT, pk⟩ := team t ht
    obtain ⟨_, k, _, km, er, _⟩ := paired_back pk kp hk
    rw [er] at hz
    have zw := (L.r1 i _ ks k eT km).m z hz
    obtain ⟨m, em⟩ := List.mem_iff_getElem?.mp zw
    have ml := (List.getElem?_eq_some_iff.mp em).1
    obtain ⟨i', ks', eT', pk'⟩ := team t' ht'
    refine (L.pa m z (by omega) em i' _ ks' eT').count pk' fun a b ⟨r1, r2⟩ g => ?_
    unfold stillB
    rcases g with g | ⟨g1, g2, g3⟩
    · rw [Bool.or_eq_true]
      exact .inl (decide_eq_true (by rw [r1]; exact g))
    · rw [Bool.or_eq_true]
      refine .inr ?_
      have wf : b.whole = false := by
        cases e : b.whole with
        | false => rfl
        | true => rw [r2 e] at g1; cases g1
      rw [wf, r1, Bool.and_eq_true, Bool.and_eq_true]
      refine ⟨rfl, ?_, List.all_eq_true.mpr fun x hx => decide_eq_true (g3 x hx)⟩
      cases e : (S a).2 with
      | nil => exact absurd e g2
      | cons _ _ => rfl
end My
namespace My
open PySem PySem.Spec PyProof.Rows L2
theorem refs_of {ks : List Addr} : ∀ {ys : List V}, (∀ y ∈ ys, y ∈ ks.map V.ref) → ∃ zs : List Addr, ys = zs.map V.ref ∧ ∀ z ∈ zs, z ∈ ks
  | [], _ => ⟨[], rfl, fun z h => nomatch h⟩
  | y :: r, h => by
    obtain ⟨zs, e, q⟩ := refs_of (ys := r) fun x hx => h x (List.mem_cons_of_mem _ hx)
    obtain ⟨z, hz, ez⟩ := List.mem_map.mp (h y List.mem_cons_self)
    refine ⟨z :: zs, by rw [e, ← ez]; rfl, fun x hx => ?_⟩
    rcases List.mem_cons.mp hx with e | e
    · rw [e]
      exact hz
    · exact q x e
theorem upd2 {H : Hp} {p : Addr} {a b : HO} : ∀ c, upd (upd H p a) p b c = upd H p b c := fun c => by
  by_cases e : c = p
  · rw [e, upd_same, upd_same]
  · rw [upd_ne e, upd_ne e, upd_ne e]
theorem unref_perm {zs ks : List Addr} (h : ∃ rest, (zs.map V.ref ++ rest).Perm (ks.map V.ref)) : ∃ rest, (zs ++ rest).Perm ks := by
  obtain ⟨rest, p⟩ := h
  have q := p.map fun v => match v with | V.ref a => a | _ => (0 : Addr)
  rw [List.map_append, List.map_map, List.map_map] at q
  have e : ∀ xs : List Addr, xs.map ((fun v => match v with | V.ref a => a | _ => (0 : Addr)) ∘ V.ref) = xs := fun xs => List.map_id' xs
  rw [e, e] at q
  exact ⟨_, q⟩
def spLived : Sp := fun vs H Q _ => ∃ (j : Addr) (most widest long : Int) (n : Nat), vs = [.ref j, .int most, .int widest, .int long] ∧ Jug H j n ∧ n + 50000 ≤ 1000000000 ∧ 1 ≤ most ∧ most ≤ 8 ∧ 1 ≤ widest ∧ widest ≤ 12 ∧ 1 ≤ long ∧ long ≤ 60 ∧
  ∀ (t q ps : Addr) (fs : List Addr) (φ : Addr → Option Kd) (H' : Hp), H' t = some (.tup [.ref q, .ref ps]) → Hall φ H H' j q fs → (∀ bd, BdAt H' q bd → LvB bd) → Ms H H' j (n + 50000) → Q (.ref t) H'
section
variable {P : Program} {w : World} {K : PySem.W.Frag} {mg : Str → Option Value} {base : Heap} {A : Ad}
theorem ok_lived (T : Txt K mg A) : FnOk P w K mg base CX0 4 A.f_lived A.d_lived P_lived spLived := by
  refine T.F_lived.ok sc_lived (fun vs H Q E h => ?_) (fun cdv A' outer s H vs Q E hr h => ?_)
  · obtain ⟨j, most, widest, few, n, rfl, _⟩ := h
    rfl
  · obtain ⟨j, most, widest, long, n, rfl, hj, n9, m1, m8, w1, w12, f1, f60, k⟩ := h
    refine ⟨_, (pss_cons (ps_set (i := 4) sc_lived.nd rfl (Or.inl rfl) (pe_call (ok_teams T) (hr.mono (by decide)) rfl T.g_teams T.F_teams.kp T.b_teams .nil pass0 (pa_cons (pv 0) (pa_cons (pv 1) (pa_cons (pv 2) pa_nil)))))
    (pss_cons (ps_set (i := 5) sc_lived.nd rfl (Or.inl rfl) (pe_lst pa_nil))
    (pss_cons (ps_for PassesOwn.never rfl (pi_listK (K := K) rfl (pe_call (ok_words T) (hr.mono (by decide)) rfl T.g_words T.F_words.kp T.b_words .nil pass0 (pa_cons (pv 0) (pa_cons (pe_call (ok_dip T) (hr.mono (by decide)) rfl T.g_dip T.F_dip.kp T.b_dip .nil pass0 (pa_cons (pv 0) (pa_cons (pe_op op_add (pv 3) pe_int) pa_nil))) pa_nil)))) (pg_name (i := 6) sc_lived.nd rfl (Or.inl rfl))
      (pss_cons (ps_set (i := 7) sc_lived.nd rfl (Or.inl rfl) (pe_lst pa_nil))
      (pss_cons (ps_for PassesOwn.never rfl (pi_listK (K := K) rfl (pv 4)) (pg_lst rfl (pgs_cons (pg_name (i := 8) sc_lived.nd rfl (Or.inl rfl)) (pgs_cons (pg_name (i := 9) sc_lived.nd rfl (Or.inl rfl)) pgs_nil)))
        (pss_cons (ps_set (i := 10) sc_lived.nd rfl (Or.inl rfl) (pe_op op_add (pv 8) (pe_callB (call_min2 rfl) (by rfl) T.n_min (by decide +kernel) (pa_cons (pe_call (ok_dip T) (hr.mono (by decide)) rfl T.g_dip T.F_dip.kp T.b_dip .nil pass0 (pa_cons (pv 0) (pa_cons (pe_op op_add (pe_op op_sub (pe_callB (len_seqK (K := K) rfl) (by rfl) T.n_len PySem.boot_len (pa_cons (pv 9) pa_nil)) (pv 8)) pe_int) pa_nil))) (pa_cons (pe_call (ok_dip T) (hr.mono (by decide)) rfl T.g_dip T.F_dip.kp T.b_dip .nil pass0 (pa_cons (pv 0) (pa_cons pe_int pa_nil))) pa_nil)))))
        (pss_one (ps_for PassesOwn.never rfl (pi_listK (K := K) rfl (pe_call (ok_picked T) (hr.mono (by decide)) rfl T.g_picked T.F_picked.kp T.b_picked .nil pass0 (pa_cons (pv 0) (pa_cons (pv 9) (pa_cons (pv 10) pa_nil))))) (pg_name (i := 11) sc_lived.nd rfl (Or.inl rfl))
          (pss_cons (ps_expr (pe_K (K := K) rfl (pe_bm PySem.F.plainAttrs_list PySem.F.slot_list_append PySem.F.type_list_append mt_append (by exact (pv 7)) (by exact (pa_cons (pe_ix (ix_listK (K := K) rfl) (pv 11) pe_int (fun _ _ => rfl)) pa_nil)))))
          (pss_cons (ps_expr (pe_K (K := K) rfl (pe_bm PySem.F.plainAttrs_list PySem.F.slot_list_append PySem.F.type_list_append mt_append (by exact (pe_ix (ix_listK (K := K) rfl) (pv 11) pe_int (fun _ _ => rfl))) (by exact (pa_cons (pv 6) pa_nil)))))
          (pss_one (ps_if (pt_cmpR op_gt (pe_callB (len_seqK (K := K) rfl) (by rfl) T.n_len PySem.boot_len (pa_cons (pe_ix (ix_listK (K := K) rfl) (pv 11) pe_int (fun _ _ => rfl)) pa_nil)) (pe_ix (ix_listK (K := K) rfl) (pv 11) pe_int (fun _ _ => rfl)) (nomark _))
            (pss_cons (ps_expr (pe_K (K := K) rfl (pe_bm PySem.F.plainAttrs_list PySem.F.slot_list_pop PySem.F.type_list_pop mt_popAt (by exact (pe_ix (ix_listK (K := K) rfl) (pv 11) pe_int (fun _ _ => rfl))) (by exact (pa_cons pe_int pa_nil)))))
            (pss_one (ps_asg pe_bl (pg_sub (pv 11) pe_int set_list))))
            pss_nil))))))))
      (pss_one (ps_expr (pe_K (K := K) rfl (pe_bm PySem.F.plainAttrs_list PySem.F.slot_list_append PySem.F.type_list_append mt_append (by exact (pv 5)) (by exact (pa_cons (pe_tup (pa_cons (pv 6) (pa_cons (pe_callB (sortedLK (K := K) rfl) (by rfl) T.n_sorted (by decide +kernel) (pa_cons (pv 7) pa_nil)) pa_nil))) pa_nil)))))))))
    (pss_one (ps_ret (pe_tup (pa_cons (pe_call (ok_frozen T) (hr.mono (by decide)) rfl T.g_frozen T.F_frozen.kp T.b_frozen .nil pass0 (pa_cons (pv 0) (pa_cons (pv 4) pa_nil))) (pa_cons (pv 5) pa_nil)))))))), ?_⟩
    refine ⟨_, rfl, _, rfl, _, rfl, j, most, widest, n, rfl, hj, by omega, m1, m8, w1, w12, fun p as τ H1 cr ro s1 => ?_⟩
    obtain ⟨t1, ntt, hp, Np, up, oka, l3⟩ := cr
    refine ⟨(show 0 ≤ sizeLine by decide), fun ps nps => ?_⟩
    have Nps := s1.fresh nps
    have ups := t1.untyped nps
    have pps : p ≠ ps := ne_of_none hp nps
    have s1' := s1.put (o := .lst []) Nps
    have t1' := t1.new (o := .lst []) nps
    refine ⟨_, rfl, _, rfl, _, rfl, _, _, rfl, rfl, j, _, _, rfl, s1'.jg, by omega, by omega, by omega, fun r H2 r0 r1 j2 x2 => ?_⟩
    obtain ⟨rn, rfl⟩ := Int.eq_ofNat_of_zero_le r0
    have s2 := s1'.dip j2 x2
    refine ⟨j, rn, _, rfl, j2, by omega, by omega, fun wl ws H3 nwl hwl lw w8 p8 j3 x3 => ?_⟩
    have s3 := s2.dip j3 x3
    have Nwl := s2.fresh nwl
    have t2 := t1'.dip ntt x2
    have uwl : τ wl = none := t2.untyped nwl
    have wps0 : ps ≠ wl := ne_of_none (x2 ps _ Nps.2 upd_same) nwl
    have t3 := t2.dip ntt x3
    have hp3 := x3 p _ Np.2 (x2 p _ Np.2 ((upd_ne pps).trans hp))
    have hps3 := x3 ps _ Nps.2 (x2 ps _ Nps.2 upd_same)
    obtain ⟨κ, hκ⟩ : ∃ κ : Str → Nat, ∀ (m : Nat) (z : Str), ws[m]? = some z → κ z = m := ⟨fun z => ws.findIdx fun x => decide (x = z), ix_find p8.2⟩
    obtain ⟨T0, ρ, S0, C, Tl, A0, L0⟩ := crews_start t1 oka ro κ ws
    have k3 : ∀ a, τ a ≠ none → H3 a = H1 a := fun a h => (keep_dip t2 ntt x3 a h).trans ((keep_dip t1' ntt x2 a h).trans (keep_new ups a h))
    have kk : ∀ {a : Addr} {u v : Kd}, (τ a = some u ∨ τ a = some v) → τ a ≠ none := fun h e => by rcases h with h | h <;> rw [e] at h <;> cases h
    have A3 := A0.keep fun a h => k3 a (kk h)
    have L3 := L0.keep C fun a h => k3 a (kk h)
    refine ⟨wl, rfl, ⟨_, SqL.of hwl⟩, for_list (K := K) (a := wl) (xs := ws.map V.str) (fun i σ F => ∃ (pl : List V) (v6 v7 v8 v9 va vb : Option V), σ = [some (.ref j), some (.int most), some (.int widest), some (.int long), some (.ref p), some (.ref ps), v6, v7, v8, v9, va, vb] ∧ THp τ F ∧ Ms H F j (n + 1300 + 606 * i) ∧ F p = some (.lst (as.map V.ref)) ∧ F wl = some (.lst (ws.map V.str)) ∧ F ps = some (.lst pl) ∧ pl.length = i ∧ AtT τ F as T0 ∧ ∃ S, Liv T0 ρ κ ws F i (fun _ => False) S)
      ⟨[], none, none, none, none, none, none, rfl, t3, s3.more (by omega), hp3, hwl, hps3, rfl, A3, S0, L3⟩ (fun i σ F _ z => by obtain ⟨pl, v6, v7, v8, v9, va, vb, _, _, _, _, z, _⟩ := z; exact SqL.of z) ?_ ?_⟩
    · rintro i x σ F hi ⟨pl, v6, v7, v8, v9, va, vb, rfl, t, sF, hp, hwl, hps, lpl, AF, S, LF⟩
      obtain ⟨wd, hwd, rfl⟩ := item_str hi
      have il : i < ws.length := (List.getElem?_eq_some_iff.mp hwd).1
      have wd8 := w8 wd (List.mem_of_getElem? hwd)
      refine ⟨(show 0 ≤ sizeLine by decide), fun sd nsd => ?_⟩
      have Nsd := sF.fresh nsd
      have usd := t.untyped nsd
      have psd : p ≠ sd := ne_of_none hp nsd
      have wsd : wl ≠ sd := ne_of_none hwl nsd
      have pssd : ps ≠ sd := ne_of_none hps nsd
      refine ⟨_, rfl, p, rfl, ⟨_, SqL.of ((upd_ne psd).trans hp)⟩, for_list (K := K) (a := p) (xs := as.map V.ref) (fun i2 σ F => ∃ (nm : List Str) (v8 v9 va vb : Option V), σ = [some (.ref j), some (.int most), some (.int widest), some (.int long), some (.ref p), some (.ref ps), some (.str wd), some (.ref sd), v8, v9, va, vb] ∧ THp τ F ∧ Ms H F j (n + 1300 + 606 * i + 202 * i2) ∧ F p = some (.lst (as.map V.ref)) ∧ F wl = some (.lst (ws.map V.str)) ∧ F ps = some (.lst pl) ∧ F sd = some (.lst (nm.map V.str)) ∧ nm.length ≤ 8 * i2 ∧ AtT τ F as T0 ∧ ∃ S D, Liv T0 ρ κ ws F i D S ∧ (∀ d, D d → ∃ t l ks, t < i2 ∧ T0[t]? = some (l, ks) ∧ d ∈ ks) ∧ ∀ t l ks, t < i2 → T0[t]? = some (l, ks) → Tal l ks fun k => Good κ wd (S k))
        ⟨[], v8, v9, va, vb, rfl, t.new nsd, sF.put Nsd, (upd_ne psd).trans hp, (upd_ne wsd).trans hwl, (upd_ne pssd).trans hps, upd_same, Nat.le_refl _, AF.keep (fun a h => keep_new usd a (kk h)), S, _, LF.keep C (fun a h => keep_new usd a (kk h)), (fun d h => h.elim), fun t l ks h => absurd h (Nat.not_lt_zero t)⟩ (fun i σ F _ z => by obtain ⟨nm, v8, v9, va, vb, _, _, _, z, _⟩ := z; exact SqL.of z) ?_ ?_⟩
      · rintro i2 y σ F hj2 ⟨nm, v8, v9, va, vb, rfl, t, sF, hp, hwl, hps, hsd, lnm, AF, S, D, LF, dD, tD⟩
        obtain ⟨x, ex, rfl⟩ := item_ref hj2
        have il2 : i2 < as.length := (List.getElem?_eq_some_iff.mp ex).1
        obtain ⟨le, c, ks, hx, tc, hc, l0, l1⟩ := t.team x (oka x (List.mem_of_getElem? ex))
        obtain ⟨ks', hc', kok, k8⟩ := t.crew c tc
        have := refs_inj hc hc'
        subst this
        obtain ⟨le', c', ks', eT, _, _, hx', hcT⟩ := AF i2 x ex
        rw [hx] at hx'
        cases hx'
        have := refs_inj hc hcT
        subst this
        refine ⟨x, _, rfl, SqL.of hx, rfl, _, _, rfl, _, _, rfl, rfl, ?_⟩
        -- size
        refine ⟨_, rfl, _, rfl, _, rfl, c, _, rfl, .inl (SqL.of hc), _, rfl, _, _, rfl, rfl, _, _, rfl, rfl, j, _, _, rfl, sF.jg, by omega, by rw [List.length_map]; omega, by rw [List.length_map]; omega, fun ra G1 ra0 ra1 j1 x1 => ?_⟩
        rw [List.length_map] at ra1
        refine ⟨_, rfl, j, 3, _, rfl, j1, by omega, by decide, by decide, fun rb G2 rb0 rb1 j2 x2 => ?_⟩
        have sG2 := (sF.dip j1 x1).dip j2 x2
        have x12 := x1.trans x2
        have tG2 := t.dip ntt x12
        have hc2 := x12 c _ (ntt.of tc).2 hc
        obtain ⟨mn, emn, mnl, mle⟩ : ∃ mn : Nat, le + (if rb < ra then rb else ra) = (mn : Int) ∧ mn ≤ (ks.map V.ref).length ∧ le ≤ mn := by
          have q0 : 0 ≤ le + (if rb < ra then rb else ra) := by split <;> omega
          obtain ⟨mn, e⟩ := Int.eq_ofNat_of_zero_le q0
          have q1 : le ≤ le + (if rb < ra then rb else ra) := by split <;> omega
          refine ⟨mn, e, ?_, by omega⟩
          rw [List.length_map]
          have : le + (if rb < ra then rb else ra) ≤ ks.length := by split <;> omega
          omega
        refine ⟨_, _, rfl, _, _, rfl, rfl, ?_⟩
        refine ⟨_, rfl, _, rfl, _, rfl, j, c, mn, _, _, congrArg (fun v => [V.ref j, .ref c, .int v]) emn, j2, by omega, SqL.of hc2, mnl, by rw [List.length_map]; omega, fun pk ys G3 npk hpk lys sub j3 x3 => ?_⟩
        obtain ⟨zs, rfl, zsub⟩ := refs_of (sub_of sub)
        obtain ⟨zrest, zperm⟩ := unref_perm sub
        have znd : zs.Nodup := (List.nodup_append.mp ((zperm.nodup_iff).mpr (C.one eT))).1
        rw [List.length_map] at lys mnl
        have kG3 : ∀ a, τ a ≠ none → G3 a = F a := fun a h => (keep_dip tG2 ntt x3 a h).trans (keep_dip t ntt x12 a h)
        have iw : ws[i]? = some wd := hwd
        have sG3 := sG2.dip j3 x3
        have tG3 := tG2.dip ntt x3
        have Npk := sG2.fresh npk
        have upk := tG2.untyped npk
        have sdpk : sd ≠ pk := ne_of_none (x12 sd _ Nsd.2 hsd) npk
        have get : ∀ {a : Addr} {o : HO}, a ≠ j → F a = some o → G3 a = some o := fun {a o} h e => x3 a o h (x12 a o h e)
        refine ⟨pk, rfl, ⟨_, SqL.of hpk⟩, for_list (K := K) (a := pk) (xs := zs.map V.ref) (fun i3 σ F => ∃ (nm : List Str) (va vb : Option V), σ = [some (.ref j), some (.int most), some (.int widest), some (.int long), some (.ref p), some (.ref ps), some (.str wd), some (.ref sd), some (.int le), some (.ref c), va, vb] ∧ THp τ F ∧ Ms H F j (n + 1300 + 606 * i + 202 * (i2 + 1)) ∧ F p = some (.lst (as.map V.ref)) ∧ F wl = some (.lst (ws.map V.str)) ∧ F ps = some (.lst pl) ∧ F pk = some (.lst (zs.map V.ref)) ∧ F sd = some (.lst (nm.map V.str)) ∧ nm.length ≤ 8 * i2 + i3 ∧ AtT τ F as T0 ∧ ∃ S, Liv T0 ρ κ ws F i (fun k => D k ∨ k ∈ zs.take i3) S ∧ (∀ t l ks, t < i2 → T0[t]? = some (l, ks) → Tal l ks fun k => Good κ wd (S k)) ∧ ∀ k ∈ zs.take i3, Good κ wd (S k))
          ⟨nm, _, vb, rfl, tG3, sG3.more (by omega), get Np.2 hp, get Nwl.2 hwl, get Nps.2 hps, hpk, get Nsd.2 hsd, lnm, AF.keep (fun a h => kG3 a (kk h)), S, (LF.keep C (fun a h => kG3 a (kk h))).less (fun k h => .inl h), tD, fun k h => nomatch h⟩ (fun i σ F _ z => by obtain ⟨nm, va, vb, _, _, _, _, _, _, z, _⟩ := z; exact SqL.of z) ?_ ?_⟩
        · rintro i3 y σ F hj3 ⟨nm, va, vb, rfl, t, sF, hp, hwl, hps, hpk, hsd, lnm, AF, S, LF, tD, gz⟩
          obtain ⟨y, ey, rfl⟩ := item_ref hj3
          have il3 : i3 < zs.length := (List.getElem?_eq_some_iff.mp ey).1
          have ty := kok y (zsub y (List.mem_of_getElem? ey))
          obtain ⟨z, room, wh, r, hy, z8, z1, r1', r12, tr, wr⟩ := t.kep y ty
          obtain ⟨rs, hr0, rs8, rl⟩ := t.row r tr
          have yks : y ∈ ks := zsub y (List.mem_of_getElem? ey)
          obtain ⟨ew, er, ers⟩ : wh = (S y).1 ∧ r = ρ y ∧ rs = (S y).2 := by
            obtain ⟨z', room', q1, _, q2⟩ := LF.co i2 le ks y eT yks
            have w1 := HO.lst.inj (Option.some.inj (hy.symm.trans q1))
            simp only [List.cons.injEq, V.bl.injEq, V.ref.injEq] at w1
            obtain ⟨_, _, w2, w3, _⟩ := w1
            rw [← w3] at q2
            exact ⟨w2, w3, strs_inj hr0 q2⟩
          have ynd : ¬ (D y ∨ y ∈ zs.take i3) := fun h => by
            rcases h with h | h
            · obtain ⟨t', l', ks', lt', e', m'⟩ := dD y h
              exact C.apart e' eT m' yks (.inr (by omega)) rfl
            · obtain ⟨b, hb⟩ := List.mem_iff_getElem?.mp h
              rw [List.getElem?_take] at hb
              split at hb
              · rename_i lb
                have := (List.getElem?_inj (by omega) znd).mp (hb.trans ey.symm)
                omega
              · cases hb
          -- what is so behind the telling
          have after : ∀ {F' : Hp}, F' y = some (.lst [.str z, .int room, .bl (tellK room wd (S y)).1, .ref (ρ y)]) → F' (ρ y) = some (.lst ((tellK room wd (S y)).2.map V.str)) → (∀ a, τ a ≠ none → a ≠ y → a ≠ ρ y → F' a = F a) →
              AtT τ F' as T0 ∧ ∃ S, Liv T0 ρ κ ws F' i (fun k => D k ∨ k ∈ zs.take (i3 + 1)) S ∧ (∀ t l ks, t < i2 → T0[t]? = some (l, ks) → Tal l ks fun k => Good κ wd (S k)) ∧ ∀ k ∈ zs.take (i3 + 1), Good κ wd (S k) := fun {F'} f1 f2 f3 => by
            refine ⟨AF.keep fun a h => f3 a (kk h) (fun e => ?_) (fun e => ?_), tellS S y (tellK room wd (S y)), ?_, fun t' l' ks' lt' e' => ?_, fun k hk => ?_⟩
            · rw [e, ty] at h
              rcases h with h | h <;> cases h
            · rw [e, ← er, tr] at h
              rcases h with h | h <;> cases h
            · have L1 : Liv T0 ρ κ ws (fun a => if τ a = none then F a else F' a) i (fun k => (D k ∨ k ∈ zs.take i3) ∨ k = y) (tellS S y (tellK room wd (S y))) := LF.tell C hκ eT yks ynd iw r1' (z := .str z)
                (by show (if τ y = none then _ else _) = _; rw [if_neg (by rw [ty]; simp)]; exact f1) (by show (if τ (ρ y) = none then _ else _) = _; rw [if_neg (by rw [← er, tr]; simp)]; exact f2)
                (fun a n1 n2 => by
                  show (if τ a = none then F a else F' a) = F a
                  by_cases ea : τ a = none
                  · rw [if_pos ea]
                  · rw [if_neg ea]
                    exact f3 a ea n1 n2)
              refine (L1.keep C fun a h => ?_).less fun k h => ?_
              · show F' a = if τ a = none then F a else F' a
                rw [if_neg (kk h)]
              · rw [List.take_succ, ey]
                rcases h with (h | h) | h
                · exact .inl h
                · exact .inr (List.mem_append.mpr (.inl h))
                · rw [h]
                  exact .inr (List.mem_append.mpr (.inr List.mem_cons_self))
            · refine (tD t' l' ks' lt' e').mono fun k hk g => ?_
              have ky : k ≠ y := fun e => by
                rw [e] at hk
                exact C.apart e' eT hk yks (.inr (by omega)) rfl
              rw [tellS_ne ky]
              exact g
            · by_cases ky : k = y
              · rw [ky, tellS_same]
                exact good_new r1'
              · rw [tellS_ne ky]
                rw [List.take_succ, ey] at hk
                rcases List.mem_append.mp hk with h | h
                · exact gz k h
                · exact absurd (List.mem_singleton.mp h) ky
          have nu : ∀ {a b : Addr} {kd : Kd}, τ a = none → τ b = some kd → a ≠ b := fun h1 h2 e => by rw [e, h2] at h1; cases h1
          have ry : r ≠ y := fun e => by rw [e, ty] at tr; cases tr
          -- said.append
          refine ⟨_, rfl, .inl ⟨rfl, _, SqL.of hsd⟩, _, rfl, y, _, _, _, rfl, rfl, SqL.of hy, atI_nat (j := 0) (v := V.str z) rfl, sd, _, _, rfl, rfl, hsd, by rw [List.length_map]; exact lt_size (m := 101) (by omega) (by decide), ?_⟩
          obtain ⟨F1, e1⟩ : ∃ G, G = upd F sd (.lst (nm.map V.str ++ [V.str z])) := ⟨_, rfl⟩
          rw [← e1]
          have ta1 : THp τ F1 := by rw [e1]; exact t.put usd
          have sa1 : Ms H F1 j (n + 1300 + 606 * i + 202 * (i2 + 1)) := by rw [e1]; exact sF.put Nsd
          have k1 : ∀ {a : Addr} {o : HO}, a ≠ sd → F a = some o → F1 a = some o := fun {a o} h e => by rw [e1, upd_ne h]; exact e
          have hsd1 : F1 sd = some (.lst ((nm ++ [z]).map V.str)) := by rw [e1, upd_same, List.map_append]; rfl
          have hy1 := k1 (nu usd ty).symm hy
          have hr1 := k1 (nu usd tr).symm hr0
          have hp1 := k1 psd hp
          have hwl1 := k1 wsd hwl
          have hps1 := k1 pssd hps
          have pksd : pk ≠ sd := sdpk.symm
          have hpk1 := k1 pksd hpk
          -- keeper[3].append(word)
          refine ⟨_, rfl, y, _, _, _, rfl, rfl, SqL.of hy1, atI_nat (j := 3) (v := V.ref r) rfl, .inl ⟨rfl, _, SqL.of hr1⟩, _, rfl, r, _, _, rfl, rfl, hr1, by rw [List.length_map]; exact lt_size (m := 101) (by omega) (by decide), ?_⟩
          have hr2 : upd F1 r (.lst (rs.map V.str ++ [V.str wd])) r = some (.lst (rs.map V.str ++ [V.str wd])) := upd_same
          have hy2 := (upd_ne (H := F1) (o := .lst (rs.map V.str ++ [V.str wd])) ry.symm).trans hy1
          refine ⟨_, rfl, y, _, _, _, rfl, rfl, SqL.of hy2, atI_nat (j := 3) (v := V.ref r) rfl, r, _, rfl, .inl (SqL.of hr2), _, rfl, y, _, _, _, rfl, rfl, SqL.of hy2, atI_nat (j := 1) (v := V.int room) rfl, _, _, rfl, rfl, ?_⟩
          have Nr := ntt.of tr
          have Ny := ntt.of ty
          have l13 : (rs.map V.str ++ [V.str wd]).length = rs.length + 1 := by rw [List.length_append, List.length_map]; rfl
          have em : rs.map V.str ++ [V.str wd] = (rs ++ [wd]).map V.str := by rw [List.map_append]; rfl
          have w13 : W8 (rs ++ [wd]) := rs8.snoc wd8
          refine ⟨_, rfl, ?_⟩
          by_cases lt : room < ((rs.map V.str ++ [V.str wd]).length : Int)
          · rw [decide_eq_true lt]
            refine iteT ?_
            rw [l13] at lt
            refine ⟨_, rfl, y, _, _, _, rfl, rfl, SqL.of hy2, atI_nat (j := 3) (v := V.ref r) rfl, .inl ⟨rfl, _, SqL.of hr2⟩, r, _, _, 0, _, rfl, rfl, hr2, by decide, by decide, seq_at (j := 0) (by rw [l13]; omega), List.getElem?_eq_getElem (by rw [l13]; omega), ?_⟩
            have e0 : (rs.map V.str ++ [V.str wd]).eraseIdx 0 = ((rs ++ [wd]).eraseIdx 0).map V.str := by rw [em, erase_map]
            rw [e0]
            have hy3 := (upd_ne (H := upd F1 r (.lst (rs.map V.str ++ [V.str wd]))) (o := .lst (((rs ++ [wd]).eraseIdx 0).map V.str)) ry.symm).trans hy2
            refine ⟨_, rfl, _, _, _, _, rfl, rfl, hy3, rfl, ?_⟩
            have l0' : ((rs ++ [wd]).eraseIdx 0).length = rs.length := by
              rw [List.length_eraseIdx, if_pos (by rw [List.length_append]; show 0 < _ + 1; omega), List.length_append]
              rfl
            have ne0 : (rs ++ [wd]).eraseIdx 0 ≠ [] := fun e => by
              rw [e] at l0'
              have : rs.length = 0 := l0'.symm
              omega
            have tA := ta1.setRow (ws := (rs ++ [wd]).eraseIdx 0) tr (w8_erase w13) (by omega) (fun _ => ne0)
            have tB : THp τ (upd (upd F1 r (.lst (rs.map V.str ++ [V.str wd]))) r (.lst (((rs ++ [wd]).eraseIdx 0).map V.str))) := tA.keep fun c _ => upd2 c
            have tC := tB.forgot (k := y) ty hy3 (by
              rw [upd_same]
              intro q
              exact ne0 (List.map_eq_nil_iff.mp (HO.lst.inj (Option.some.inj q))))
            have tk : tellK room wd (S y) = (false, (rs ++ [wd]).eraseIdx 0) := by
              unfold tellK
              rw [← ers, if_pos (by omega)]
              cases rs with
              | nil => rfl
              | cons _ _ => rfl
            refine ⟨nm ++ [z], _, _, rfl, tC, ((sa1.put Nr).put Nr).put Ny, ?_, ?_, ?_, ?_, ?_, by rw [List.length_append]; show _ + 1 ≤ _; omega, after ?_ ?_ fun a h n1 n2 => ?_⟩
            · rw [upd_ne (nu up ty), upd_ne (nu up tr), upd_ne (nu up tr)]
              exact hp1
            · rw [upd_ne (nu uwl ty), upd_ne (nu uwl tr), upd_ne (nu uwl tr)]
              exact hwl1
            · rw [upd_ne (nu ups ty), upd_ne (nu ups tr), upd_ne (nu ups tr)]
              exact hps1
            · rw [upd_ne (nu upk ty), upd_ne (nu upk tr), upd_ne (nu upk tr)]
              exact hpk1
            · rw [upd_ne (nu usd ty), upd_ne (nu usd tr), upd_ne (nu usd tr)]
              exact hsd1
            · rw [upd_same, tk, ← er]
              rfl
            · rw [← er, upd_ne ry, upd_same, tk]
            · rw [← er] at n2
              rw [upd_ne n1, upd_ne n2, upd_ne n2, e1, upd_ne (fun e => h (by rw [e]; exact usd))]
          · rw [decide_eq_false lt]
            refine iteF ?_
            rw [l13] at lt
            have tA := ta1.setRow (ws := rs ++ [wd]) tr w13 (by rw [List.length_append]; show _ + 1 ≤ 12; omega) (fun _ => by simp)
            rw [← em] at tA
            have tk : tellK room wd (S y) = (wh, rs ++ [wd]) := by
              unfold tellK
              rw [← ers, if_neg (by omega), ew]
            refine to_nx ⟨nm ++ [z], _, _, rfl, tA, sa1.put Nr, ?_, ?_, ?_, ?_, ?_, by rw [List.length_append]; show _ + 1 ≤ _; omega, after ?_ ?_ fun a h n1 n2 => ?_⟩
            · rw [upd_ne (nu up tr)]
              exact hp1
            · rw [upd_ne (nu uwl tr)]
              exact hwl1
            · rw [upd_ne (nu ups tr)]
              exact hps1
            · rw [upd_ne (nu upk tr)]
              exact hpk1
            · rw [upd_ne (nu usd tr)]
              exact hsd1
            · rw [upd_ne ry.symm, tk, ← er]
              exact hy1
            · rw [← er, upd_same, tk, em]
            · rw [← er] at n2
              rw [upd_ne n2, e1, upd_ne (fun e => h (by rw [e]; exact usd))]
        · rintro σ F ⟨nm, va, vb, rfl, t, sF, hp, hwl, hps, hpk, hsd, lnm, AF, S, LF, tD2, gz⟩
          rw [List.length_map] at lnm LF gz
          rw [List.take_of_length_le (Nat.le_refl _)] at gz
          refine ⟨nm, _, _, _, _, rfl, t, sF, hp, hwl, hps, hsd, by omega, AF, S, _, LF, fun d h => ?_, fun t' l' ks' lt' e' => ?_⟩
          · rcases h with h | h
            · obtain ⟨t', l', ks', lt', e', m'⟩ := dD d h
              exact ⟨t', l', ks', by omega, e', m'⟩
            · rw [List.take_of_length_le (Nat.le_refl _)] at h
              exact ⟨i2, le, ks, Nat.lt_succ_self _, eT, zsub d h⟩
          · rcases Nat.lt_or_eq_of_le (Nat.le_of_lt_succ lt') with q | q
            · exact tD2 t' l' ks' q e'
            · subst q
              rw [eT] at e'
              cases e'
              exact ⟨zs, zrest, zperm, by omega, gz⟩
      · rintro σ F ⟨nm, v8, v9, va, vb, rfl, t, sF, hp, hwl, hps, hsd, lnm, AF, S, D, LF, dD, tD⟩
        rw [List.length_map] at sF tD
        have LF2 := LF.turn (wd := wd) hwd fun t' l' ks' e' => tD t' l' ks' (by have := (List.getElem?_eq_some_iff.mp e').1; omega) e'
        refine ⟨_, rfl, .inl ⟨rfl, _, SqL.of hps⟩, _, rfl, _, rfl, sd, _, rfl, SqL.of hsd, fun ys q pm srt nq => ?_⟩
        have Nq := sF.fresh nq
        have psq : ps ≠ q := ne_of_none hps nq
        refine ⟨(show 2 ≤ sizeLine by decide), fun q2 nq2 => ?_⟩
        have Nq2 := (sF.put (o := .lst (ys.map V.str)) Nq).fresh nq2
        have psq2 : ps ≠ q2 := ne_of_none ((upd_ne psq).trans hps) nq2
        have pq : p ≠ q := ne_of_none hp nq
        have pq2 : p ≠ q2 := ne_of_none ((upd_ne pq).trans hp) nq2
        have wq : wl ≠ q := ne_of_none hwl nq
        have wq2 : wl ≠ q2 := ne_of_none ((upd_ne wq).trans hwl) nq2
        have wps : wl ≠ ps := wps0.symm
        refine ⟨ps, _, _, rfl, rfl, (upd_ne psq2).trans ((upd_ne psq).trans hps), by rw [lpl]; exact lt_size (m := 101) (by omega) (by decide), ?_⟩
        refine ⟨pl ++ [.ref q2], _, _, _, _, _, _, rfl, ((t.new nq).new nq2).put ups, (((sF.put Nq).put Nq2).put Nps).more (by omega), ?_, ?_, upd_same, by rw [List.length_append, lpl]; rfl, AF.keep fun a h => ?_, S, LF2.keep C fun a h => ?_⟩
        rotate_left 2
        · rw [keep_new ups a (kk h), keep_new (t.new (o := .lst (ys.map V.str)) nq |>.untyped nq2) a (kk h), keep_new (t.untyped nq) a (kk h)]
        · rw [keep_new ups a (kk h), keep_new (t.new (o := .lst (ys.map V.str)) nq |>.untyped nq2) a (kk h), keep_new (t.untyped nq) a (kk h)]
        · rw [upd_ne pps, upd_ne pq2, upd_ne pq]
          exact hp
        · rw [upd_ne wps, upd_ne wq2, upd_ne wq]
          exact hwl
    · rintro σ F ⟨pl, v6, v7, v8, v9, va, vb, rfl, t, sF, hp, hwl, hps, lpl, AF, S, LF⟩
      rw [List.length_map] at sF LF
      refine ⟨_, rfl, _, rfl, H, j, p, as, τ, _, rfl, ⟨t, ntt, hp, Np, up, oka, l3⟩, sF, by omega, fun q fs φ H' ha fro s' => ?_⟩
      refine ⟨_, rfl, (show 2 ≤ sizeLine by decide), fun tt ntt' => ?_⟩
      have Ntt := s'.fresh ntt'
      refine k tt q ps fs φ _ upd_same ⟨ha.t.new ntt', ha.nt, (upd_ne (ne_of_none ha.h ntt')).trans ha.h, ha.np, ha.up, ha.ok, ha.l⟩ (fun bd hb => lv_board AF LF rfl hκ (fro.same (same_new ntt')) ((upd_ne (ne_of_none ha.h ntt')).trans ha.h) hb) ((s'.put Ntt).more (by omega))
end
end My
namespace My
open PySem PySem.Spec PyProof.Rows L2
theorem paired_all {α β : Type} {R : α → β → Prop} {S : β → Prop} : ∀ {xs : List α} {ys : List β}, Paired R xs ys → (∀ x y, x ∈ xs → R x y → S y) → ∀ y ∈ ys, S y
  | _, _, .nil, _, y, h => nomatch h
  | _, _, .cons q r, f, y, h => by
    rcases List.mem_cons.mp h with e | e
    · rw [e]
      exact f _ _ List.mem_cons_self q
    · exact paired_all r (fun x y hx => f x y (List.mem_cons_of_mem _ hx)) y e
/-- a typed board is a board -/
theorem Hall.bd {τ : Addr → Option Kd} {H0 G : Hp} {j p : Addr} {as : List Addr} (h : Hall τ H0 G j p as) : ∃ bd, BdAt G p bd ∧ BdOk bd ∧ BdF bd := by
  have key : ∀ a ∈ as, ∃ t : Tm, TmAt G a t ∧ TmOk t ∧ (∀ k ∈ t.ks, k.whole = true ∨ k.row ≠ []) ∧ ∀ k ∈ t.ks, k.name ≠ Str.empty := fun a ha => by
    obtain ⟨l, c, h1, tc, l0, l9⟩ := h.t.team a (h.ok a ha)
    obtain ⟨ks, h2, kk, k8⟩ := h.t.crew c tc
    obtain ⟨kps, pk⟩ := paired_ex (R := fun x (k : Kp) => KpAt G x k ∧ KpOk k ∧ (k.whole = true ∨ k.row ≠ []) ∧ k.name ≠ Str.empty) (xs := ks) fun x hx => by
      obtain ⟨z, room, wh, r, e, z8, z1, r1, r12, tr, wr⟩ := h.t.kep x (kk x hx)
      obtain ⟨ws, hr, w8, l12⟩ := h.t.row r tr
      refine ⟨⟨z, room, wh, ws⟩, ⟨r, e, hr⟩, ⟨z8, r1, r12, l12, w8⟩, ?_, fun e0 => ?_⟩
      · cases wh with
        | true => exact .inl rfl
        | false =>
          refine .inr fun e0 => wr rfl ?_
          have e0 : ws = [] := e0
          rw [hr, e0]
          rfl
      · have e0 : z = Str.empty := e0
        rw [e0] at z1
        exact absurd z1 (by decide)
    have al := paired_all pk (S := fun k => KpOk k ∧ (k.whole = true ∨ k.row ≠ []) ∧ k.name ≠ Str.empty) fun _ _ _ q => q.2
    have kl := pk.length
    exact ⟨⟨l, kps⟩, ⟨c, ks, h1, h2, L2.Paired.mapP pk fun _ _ q => q.1⟩, ⟨l0, l9, by show kps.length ≤ 8; omega, fun k hk => (al k hk).1⟩, fun k hk => (al k hk).2.1, fun k hk => (al k hk).2.2⟩
  obtain ⟨bd, pb⟩ := paired_ex key
  have al := paired_all pb (S := fun t => TmOk t ∧ (∀ k ∈ t.ks, k.whole = true ∨ k.row ≠ []) ∧ ∀ k ∈ t.ks, k.name ≠ Str.empty) fun _ _ _ q => q.2
  have bl := pb.length
  have l3 := h.l
  exact ⟨bd, ⟨as, h.h, L2.Paired.mapP pb fun _ _ q => q.1⟩, ⟨by omega, fun t ht => (al t ht).1⟩, ⟨fun t ht => (al t ht).2.1, fun t ht => (al t ht).2.2⟩⟩
def allR (bd : List Tm) : List Str := bd.flatMap fun t => t.ks.flatMap (·.row)
def spThingsL : Sp := fun vs H Q _ => ∃ (a : Addr) (bd : List Tm), vs = [.ref a] ∧ BdAt H a bd ∧ BdOk bd ∧
  ∀ (p : Addr) (ys : List Str) (H' : Hp), H p = none → H' p = some (.lst (ys.map V.str)) → ys.length ≤ 288 → W8 ys → ys.Nodup → (∀ z, z ∈ ys ↔ z ∈ allR bd) → Sorted ys → Same H H' → Q (.ref p) H'
theorem rowT_len {bd : List Tm} (h : ∀ t ∈ bd, TmOk t) : (allR bd).length ≤ 96 * bd.length := by
  unfold allR
  induction bd with
  | nil => exact Nat.le_refl _
  | cons t r ih =>
    have a := ih fun x hx => h x (List.mem_cons_of_mem _ hx)
    have ok := h t List.mem_cons_self
    have b := flat_len (f := fun k : Kp => k.row) (m := 12) (ks := t.ks) fun k hk => (ok.ok k hk).l12
    have c := ok.k8
    rw [List.flatMap_cons, List.length_append, List.length_cons]
    omega
section
variable {P : Program} {w : World} {K : PySem.W.Frag} {mg : Str → Option Value} {base : Heap} {A : Ad}
theorem ok_things (T : Txt K mg A) : FnOk P w K mg base CX0 1 A.f_things A.d_things P_things spThingsL := by
  refine T.F_things.ok sc_things (fun vs H Q E h => ?_) (fun cdv A' outer s H vs Q E hr h => ?_)
  · obtain ⟨a, bd, rfl, _⟩ := h
    rfl
  · obtain ⟨a, bd, rfl, ⟨as, ha, pa⟩, ok, k⟩ := h
    refine ⟨_, (pss_cons (ps_set (i := 1) sc_things.nd rfl (Or.inl rfl) (pe_lst pa_nil))
    (pss_cons (ps_for PassesOwn.never rfl (pi_listK (K := K) rfl (pv 0)) (pg_tup rfl (pgs_cons (pg_name (i := 2) sc_things.nd rfl (Or.inl rfl)) (pgs_cons (pg_name (i := 3) sc_things.nd rfl (Or.inl rfl)) pgs_nil)))
      (pss_one (ps_for PassesOwn.never rfl (pi_listK (K := K) rfl (pv 3)) (pg_tup rfl (pgs_cons (pg_name (i := 4) sc_things.nd rfl (Or.inl rfl)) (pgs_cons (pg_name (i := 5) sc_things.nd rfl (Or.inl rfl)) (pgs_cons (pg_name (i := 6) sc_things.nd rfl (Or.inl rfl)) (pgs_cons (pg_name (i := 7) sc_things.nd rfl (Or.inl rfl)) pgs_nil)))))
        (pss_one (ps_expr (pe_K (K := K) rfl (pe_bm PySem.F.plainAttrs_list PySem.F.slot_list_extend PySem.F.type_list_extend mt_extend (by exact (pv 1)) (by exact (pa_cons (pv 7) pa_nil)))))))))
    (pss_one (ps_ret (pe_callB (cr_sortedT (X := _) rfl) (by rfl) T.n_sorted (by decide +kernel) (pa_cons (pe_callTy (setLK (K := K) rfl rfl) (by rfl) T.n_set (by decide +kernel) (pa_cons (pv 1) pa_nil)) pa_nil)))))), ?_⟩
    have al := pa.length
    refine ⟨(show 0 ≤ sizeLine by decide), fun D nD => ?_⟩
    refine ⟨_, rfl, a, rfl, ⟨_, SqL.of (same_new nD _ _ ha)⟩, for_list (K := K) (a := a) (xs := as.map V.ref) (fun i σ G => Same H G ∧ ∃ (v2 v3 v4 v5 v6 v7 : Option V), σ = [some (.ref a), some (.ref D), v2, v3, v4, v5, v6, v7] ∧ G D = some (.lst ((allR (bd.take i)).map V.str)))
      ⟨same_new nD, _, _, _, _, _, _, rfl, upd_same⟩ (fun i σ G _ z => SqL.of (z.1 _ _ ha)) ?_ ?_⟩
    · rintro i x σ G hi ⟨sG, v2, v3, v4, v5, v6, v7, rfl, hD⟩
      obtain ⟨x, ex, rfl⟩ := item_ref hi
      obtain ⟨t, et, c, cs, ht, hc, pc⟩ := paired_at pa ex
      have tok := ok.ok t (List.mem_of_getElem? et)
      have cl := pc.length
      have k8 := tok.k8
      have t3 := ok.t3
      have il : i < bd.length := (List.getElem?_eq_some_iff.mp et).1
      have rl := rowT_len (bd := bd.take i) fun x hx => ok.ok x (List.mem_of_mem_take hx)
      rw [List.length_take] at rl
      have al2 : allR (bd.take (i + 1)) = allR (bd.take i) ++ t.ks.flatMap (·.row) := by
        unfold allR
        rw [List.take_succ, et, List.flatMap_append]
        show _ ++ List.flatMap _ [t] = _
        rw [List.flatMap_cons, List.flatMap_nil, List.append_nil]
      refine ⟨x, _, rfl, SqT.of (sG _ _ ht), rfl, _, _, rfl, _, _, rfl, rfl, ?_⟩
      refine ⟨_, rfl, c, rfl, ⟨_, SqL.of (sG _ _ hc)⟩, for_list (K := K) (a := c) (xs := cs.map V.ref) (fun i2 σ F => Same H F ∧ ∃ (v4 v5 v6 v7 : Option V), σ = [some (.ref a), some (.ref D), some (.int t.least), some (.ref c), v4, v5, v6, v7] ∧ F D = some (.lst ((allR (bd.take i) ++ (t.ks.take i2).flatMap (·.row)).map V.str)))
        ⟨sG, _, _, _, _, rfl, by rw [List.take_zero, List.flatMap_nil, List.append_nil]; exact hD⟩ (fun i σ F _ z => SqL.of (z.1 _ _ hc)) ?_ ?_⟩
      · rintro i2 y σ F hj ⟨sF, v4, v5, v6, v7, rfl, hD⟩
        obtain ⟨y, ey, rfl⟩ := item_ref hj
        obtain ⟨kp, ek, r, c1, c2⟩ := paired_at pc ey
        have kok := tok.ok kp (List.mem_of_getElem? ek)
        have jl : i2 < t.ks.length := (List.getElem?_eq_some_iff.mp ek).1
        have wl := flat_len (f := fun k : Kp => k.row) (m := 12) (ks := t.ks.take i2) fun k hk => (tok.ok k (List.mem_of_mem_take hk)).l12
        rw [List.length_take] at wl
        have r12 := kok.l12
        refine ⟨y, _, rfl, SqT.of (sF _ _ c1), rfl, _, _, rfl, _, _, rfl, _, _, rfl, _, _, rfl, rfl, ?_⟩
        refine ⟨_, rfl, .inl ⟨rfl, _, SqL.of hD⟩, _, rfl, D, r, _, _, rfl, rfl, hD, sF _ _ c2, by rw [List.length_map, List.length_map, List.length_append]; exact Nat.le_of_lt (small1000 (by omega)), ?_⟩
        refine ⟨same_over sF nD, _, _, _, _, rfl, ?_⟩
        rw [upd_same, beh_take (z := Str.empty) ek, ← List.map_append, List.append_assoc]
      · rintro σ F ⟨sF, v4, v5, v6, v7, rfl, hD⟩
        rw [List.length_map, List.take_of_length_le (l := t.ks) (by omega), ← al2] at hD
        exact ⟨sF, _, _, _, _, _, _, rfl, hD⟩
    · rintro σ G ⟨sG, v2, v3, v4, v5, v6, v7, rfl, hD⟩
      rw [List.length_map, List.take_of_length_le (by omega)] at hD
      have rl := rowT_len ok.ok
      have t3 := ok.t3
      have line : scanBound = 4096 := rfl
      refine ⟨_, rfl, D, _, rfl, SqL.of hD, by omega, fun q nq => ?_⟩
      refine ⟨q, _, rfl, upd_same, fun ys p pm srt np => ?_⟩
      have sq : Same G (upd G q (SetTx w q (distT (allR bd)))) := same_new nq
      have dl := distT_len (allR bd)
      refine k p ys _ (free_of sG (free_of sq np)) upd_same (by rw [pm.length_eq]; omega) (fun z hz => ?_) (pm.nodup_iff.mpr (distT_nd _)) (fun z => (pm.mem_iff).trans distT_mem) srt (sG.trans (sq.trans (same_new np)))
      obtain ⟨t, ht, q1⟩ := List.mem_flatMap.mp (distT_mem.mp (pm.mem_iff.mp hz))
      obtain ⟨k, hk, q2⟩ := List.mem_flatMap.mp q1
      exact ((ok.ok t ht).ok k hk).w8 z q2
end
end My
namespace My
open PySem PySem.Spec PyProof.Rows L2
/-- all keepers of a board -/
def allK (bd : List Tm) : List Kp := bd.flatMap (·.ks)
theorem allK_more {bd : List Tm} {i : Nat} {t : Tm} (h : bd[i]? = some t) : allK (bd.take (i + 1)) = allK (bd.take i) ++ t.ks := by
  unfold allK
  rw [List.take_succ, h, List.flatMap_append]
  show _ ++ List.flatMap _ [t] = _
  rw [List.flatMap_cons, List.flatMap_nil, List.append_nil]
theorem allK_len : ∀ bd : List Tm, (∀ t ∈ bd, TmOk t) → (allK bd).length ≤ 8 * bd.length
  | [], _ => Nat.le_refl _
  | t :: r, h => by
    have ih := allK_len r fun x hx => h x (List.mem_cons_of_mem _ hx)
    have e : allK (t :: r) = t.ks ++ allK r := List.flatMap_cons
    rw [e, List.length_append, List.length_cons]
    have := (h t List.mem_cons_self).k8
    omega
def spKo : Sp := fun vs H Q _ => ∃ (a : Addr) (bd : List Tm), vs = [.ref a] ∧ BdAt H a bd ∧ BdOk bd ∧
  ∀ (p : Addr) (as : List Addr) (H' : Hp), H p = none → H' p = some (.lst (as.map V.ref)) → Paired (KpAt H) as (allK bd) → Same H H' → Q (.ref p) H'
/-- all things, keeper by keeper; the names; the names of those who have one -/
def rows (ks : List Kp) : List Str := ks.flatMap (·.row)
def nms (ks : List Kp) : List Str := ks.map (·.name)
def whs (z : Str) (ks : List Kp) : List Str := (ks.filter fun k => decide (z ∈ k.row)).map (·.name)
theorem rows_len : ∀ ks : List Kp, (∀ k ∈ ks, KpOk k) → (rows ks).length ≤ 12 * ks.length
  | [], _ => Nat.le_refl _
  | k :: r, h => by
    have a := rows_len r fun x hx => h x (List.mem_cons_of_mem _ hx)
    have b := (h k List.mem_cons_self).l12
    have e : rows (k :: r) = k.row ++ rows r := List.flatMap_cons
    rw [e, List.length_append, List.length_cons]
    omega
theorem allK_ok {bd : List Tm} (ok : BdOk bd) : ∀ k ∈ allK bd, KpOk k := fun k hk => by
  obtain ⟨t, ht, q⟩ := List.mem_flatMap.mp hk
  exact (ok.ok t ht).ok k q
theorem allK_24 {bd : List Tm} (ok : BdOk bd) : (allK bd).length ≤ 24 := by
  have a := allK_len bd ok.ok
  have b := ok.t3
  omega
theorem rows_more {ks : List Kp} {i : Nat} {k : Kp} (h : ks[i]? = some k) : rows (ks.take (i + 1)) = rows (ks.take i) ++ k.row := by
  unfold rows
  rw [List.take_succ, h, List.flatMap_append]
  show _ ++ List.flatMap _ [k] = _
  rw [List.flatMap_cons, List.flatMap_nil, List.append_nil]
/-- the things of a board, rising -/
structure Known (bd : List Tm) (ys : List Str) : Prop where
  nd : ys.Nodup
  mem : ∀ z, z ∈ ys ↔ z ∈ allR bd
  srt : Sorted ys
theorem rise_one {xs ys : List Str} (h1 : xs.Nodup) (h2 : ys.Nodup) (m : ∀ z, z ∈ xs ↔ z ∈ ys) (s1 : Sorted xs) (s2 : Sorted ys) : xs = ys :=
  sorted_one ((List.perm_ext_iff_of_nodup h1 h2).mpr m) s1 s2
theorem Known.uniq {bd : List Tm} {xs ys : List Str} (x : Known bd xs) (y : Known bd ys) : xs = ys := rise_one x.nd y.nd (fun z => (x.mem z).trans (y.mem z).symm) x.srt y.srt
theorem rows_allR (z : Str) (bd : List Tm) : z ∈ rows (allK bd) ↔ z ∈ allR bd := by
  unfold rows allK allR
  rw [List.mem_flatMap, List.mem_flatMap]
  constructor
  · intro ⟨k, hk, q⟩
    obtain ⟨t, ht, hk⟩ := List.mem_flatMap.mp hk
    exact ⟨t, ht, List.mem_flatMap.mpr ⟨k, hk, q⟩⟩
  · intro ⟨t, ht, q⟩
    obtain ⟨k, hk, q⟩ := List.mem_flatMap.mp q
    exact ⟨k, List.mem_flatMap.mpr ⟨t, ht, hk⟩, q⟩
theorem rows_w8 {bd : List Tm} (ok : BdOk bd) : W8 (rows (allK bd)) := fun z hz => by
  obtain ⟨k, hk, q⟩ := List.mem_flatMap.mp hz
  exact (allK_ok ok k hk).w8 z q
def spThingsP : Sp := fun vs H Q _ => ∃ (a : Addr) (bd : List Tm), vs = [.ref a] ∧ BdAt H a bd ∧ BdOk bd ∧
  ∀ (p : Addr) (ys : List Str) (H' : Hp), H p = none → H' p = some (.lst (ys.map V.str)) → Known bd ys → ys.length ≤ 288 → W8 ys → Same H H' → Q (.ref p) H'
section
variable {P : Program} {w : World} {K : PySem.W.Frag} {mg : Str → Option Value} {base : Heap} {A : Ad}
theorem ok_keepers_of (T : Txt K mg A) : FnOk P w K mg base CX0 1 A.f_keepers_of A.d_keepers_of P_keepers_of spKo := by
  refine T.F_keepers_of.ok sc_keepers_of (fun vs H Q E h => ?_) (fun cdv A' outer s H vs Q E hr h => ?_)
  · obtain ⟨a, bd, rfl, _⟩ := h
    rfl
  · obtain ⟨a, bd, rfl, hb, ok, k⟩ := h
    refine ⟨_, (pss_one (ps_ret (pe_lc2 (own := [("team", 1), ("keeper", 2)]) (tt := tYes) (tt1 := tYes) (vs1 := [2]) (g := (gName 1)) (g1 := (gName 2)) rfl sc_keepers_of.nd (pi_listK (K := K) rfl (pv 0)) (blkOk_by (own := [("team", 1), ("keeper", 2)]) (N := N_keepers_of) (sc := defScope s_keepers_of) (by decide +kernel)) (by decide) (fun _ _ _ _ _ => (pg_name (i := 1) sc_keepers_of.nd rfl (Or.inl rfl))) (fun _ _ _ _ _ => pts_nil) (fun _ _ _ _ _ => (pi_listK (K := K) rfl (pe_ix (ix_tupK (K := K) rfl) (pv 1) pe_int (fun _ _ => rfl)))) (fun _ _ _ _ _ => (pg_name (i := 2) sc_keepers_of.nd rfl (Or.inl rfl))) (fun _ _ _ _ _ => pts_nil) (fun _ _ _ _ _ => (pv 2))))), ?_⟩
    obtain ⟨as, ha, pa⟩ := hb
    refine ⟨_, rfl, a, rfl, ⟨_, SqL.of ha⟩, fun D nD => ?_⟩
    have al := pa.length
    refine ⟨fun i m H' => m = as.length - i ∧ i ≤ as.length ∧ Same H H' ∧ ∃ ds : List Addr, H' D = some (.lst (ds.map V.ref)) ∧ Paired (KpAt H) ds (allK (bd.take i)),
      ⟨_, rfl, Nat.zero_le _, same_new nD, [], upd_same, .nil⟩, ?_⟩
    rintro i m H1 ⟨rfl, hi, s1, ds, hD, pd⟩
    have q1 : SqL K H1 a (as.map V.ref) := SqL.of (s1 _ _ ha)
    by_cases lt : i < as.length
    · refine .inr ⟨⟨_, V.ref as[i], q1, map_at (List.getElem?_eq_getElem lt)⟩, fun H' => i + 1 ≤ as.length ∧ Same H H' ∧ ∃ ds : List Addr, H' D = some (.lst (ds.map V.ref)) ∧ Paired (KpAt H) ds (allK (bd.take (i + 1))), fun H' z => ⟨as.length - (i + 1), by omega, rfl, z⟩, ?_⟩
      rintro x H2 ⟨rfl, y⟩
      have ex : V.ref as[i] = x := Option.some.inj ((map_at (f := V.ref) (List.getElem?_eq_getElem lt)).symm.trans (y _ q1))
      subst ex
      obtain ⟨t, et, tat⟩ := paired_at pa (List.getElem?_eq_getElem lt)
      obtain ⟨c, cs, ht, hc, pc⟩ := tat
      have tok := ok.ok t (List.mem_of_getElem? et)
      have cl := pc.length
      have more := allK_more et
      have hl := allK_len (bd.take i) fun x hx => ok.ok x (List.mem_of_mem_take hx)
      have t3 := ok.t3
      have k8 := tok.k8
      rw [List.length_take] at hl
      refine ⟨rfl, ?_⟩
      refine ⟨_, rfl, as[i], _, _, _, rfl, rfl, SqT.of (s1 _ _ ht), rfl, c, rfl, ⟨_, SqL.of (s1 _ _ hc)⟩, ?_⟩
      refine ⟨fun j m H' => m = cs.length - j ∧ j ≤ cs.length ∧ Same H H' ∧ ∃ ds : List Addr, H' D = some (.lst (ds.map V.ref)) ∧ Paired (KpAt H) ds (allK (bd.take i) ++ t.ks.take j),
        ⟨_, rfl, Nat.zero_le _, s1, ds, hD, by rw [List.take_zero, List.append_nil]; exact pd⟩, ?_⟩
      rintro j m H3 ⟨rfl, hj, s3, ds3, hD3, pd3⟩
      have q3 : SqL K H3 c (cs.map V.ref) := SqL.of (s3 _ _ hc)
      by_cases lj : j < cs.length
      · refine .inr ⟨⟨_, V.ref cs[j], q3, map_at (List.getElem?_eq_getElem lj)⟩, fun H' => j + 1 ≤ cs.length ∧ Same H H' ∧ ∃ ds : List Addr, H' D = some (.lst (ds.map V.ref)) ∧ Paired (KpAt H) ds (allK (bd.take i) ++ t.ks.take (j + 1)), fun H' z => ⟨cs.length - (j + 1), by omega, rfl, z⟩, ?_⟩
        rintro x H4 ⟨rfl, y⟩
        have ex : V.ref cs[j] = x := Option.some.inj ((map_at (f := V.ref) (List.getElem?_eq_getElem lj)).symm.trans (y _ q3))
        subst ex
        obtain ⟨kp, ek, kat⟩ := paired_at pc (List.getElem?_eq_getElem lj)
        have dl := pd3.length
        rw [List.length_append, List.length_take] at dl
        refine ⟨rfl, _, rfl, _, hD3, by rw [List.length_map]; exact lt_size (m := 40) (by omega) (by decide), lj, ?_, ds3 ++ [cs[j]], ?_, ?_⟩
        · exact same_over s3 nD
        · rw [upd_same, List.map_append]
          rfl
        · rw [List.take_succ, ek, ← List.append_assoc]
          exact paired_snoc pd3 kat
      · refine .inl ⟨⟨_, q3, by rw [List.length_map]; omega⟩, lt, s3, ds3, hD3, ?_⟩
        rw [more]
        have e : t.ks.take j = t.ks := List.take_of_length_le (by omega)
        rw [e] at pd3
        exact pd3
    · refine .inl ⟨⟨_, q1, by rw [List.length_map]; omega⟩, k D ds H1 nD hD ?_ s1⟩
      rw [List.take_of_length_le (by omega)] at pd
      exact pd
/-- the first keeper of a name -/
theorem ok_p_things (T : Txt K mg A) : FnOk P w K mg base CX0 2 A.f_p_things A.d_p_things P_p_things spThingsP := by
  refine T.F_p_things.ok sc_p_things (fun vs H Q E h => ?_) (fun cdv A' outer s H vs Q E hr h => ?_)
  · obtain ⟨a, bd, rfl, _⟩ := h
    rfl
  · obtain ⟨a, bd, rfl, hb, ok, k⟩ := h
    refine ⟨_, (pss_one (ps_ret (pe_callB (cr_sortedT (X := _) rfl) (by rfl) T.n_sorted (by decide +kernel) (pa_cons (pe_sc2 (own := [("keeper", 1), ("thing", 2)]) (vs1 := [2]) (g := (gName 1)) (g1 := (gName 2)) rfl sc_p_things.nd (pi_listK (K := K) rfl (pe_call (ok_keepers_of T) (hr.mono (by decide)) rfl T.g_keepers_of T.F_keepers_of.kp T.b_keepers_of .nil pass0 (pa_cons (pv 0) pa_nil))) (blkOk_by (own := [("keeper", 1), ("thing", 2)]) (N := N_p_things) (sc := defScope s_p_things) (by decide +kernel)) (by decide) (fun _ _ _ _ _ => (pg_name (i := 1) sc_p_things.nd rfl (Or.inl rfl))) (fun _ _ _ _ _ => (pi_listK (K := K) rfl (pe_ix (ix_tupK (K := K) rfl) (pv 1) pe_int (fun _ _ => rfl)))) (fun _ _ _ _ _ => (pg_name (i := 2) sc_p_things.nd rfl (Or.inl rfl))) (fun _ _ _ _ _ => (pv 2))) pa_nil)))), ?_⟩
    refine ⟨_, rfl, a, bd, rfl, hb, ok, fun p as H1 np hp pk s1 => ?_⟩
    refine ⟨p, rfl, ⟨_, SqL.of hp⟩, fun D nD => ?_⟩
    have pk := L2.Paired.mapP pk fun _ _ q => q.same s1
    have al := pk.length
    have k24 := allK_24 ok
    have line : scanBound = 4096 := rfl
    refine ⟨fun i m H' => m = as.length - i ∧ i ≤ as.length ∧ Same H1 H' ∧ H' D = some (SetTx _ D (distT (rows ((allK bd).take i)))), ⟨_, rfl, Nat.zero_le _, same_new nD, upd_same⟩, ?_⟩
    rintro i m G ⟨rfl, hi, sG, hD⟩
    have q1 : SqL K G p (as.map V.ref) := SqL.of (sG _ _ hp)
    by_cases lt : i < as.length
    · refine .inr ⟨⟨_, V.ref as[i], q1, map_at (List.getElem?_eq_getElem lt)⟩, fun H' => i + 1 ≤ as.length ∧ Same H1 H' ∧ H' D = some (SetTx _ D (distT (rows ((allK bd).take (i + 1))))), fun H' z => ⟨as.length - (i + 1), by omega, rfl, z⟩, ?_⟩
      rintro x G2 ⟨rfl, y⟩
      have ex : V.ref as[i] = x := Option.some.inj ((map_at (f := V.ref) (List.getElem?_eq_getElem lt)).symm.trans (y _ q1))
      subst ex
      obtain ⟨kp, ek, kat⟩ := paired_at pk (List.getElem?_eq_getElem lt)
      obtain ⟨r, c1, c2⟩ := kat
      have h1 := sG _ _ c1
      have h2 := sG _ _ c2
      have kok := allK_ok ok kp (List.mem_of_getElem? ek)
      have rl := rows_len ((allK bd).take i) fun x hx => allK_ok ok x (List.mem_of_mem_take hx)
      rw [List.length_take] at rl
      have r12 := kok.l12
      refine ⟨rfl, ?_⟩
      refine ⟨_, rfl, as[i], _, _, _, rfl, rfl, SqT.of h1, rfl, r, rfl, ⟨_, SqL.of h2⟩, ?_⟩
      refine ⟨fun j m H' => m = kp.row.length - j ∧ j ≤ kp.row.length ∧ Same H1 H' ∧ H' D = some (SetTx _ D (distT (rows ((allK bd).take i) ++ kp.row.take j))),
        ⟨_, rfl, Nat.zero_le _, sG, by rw [List.take_zero, List.append_nil]; exact hD⟩, ?_⟩
      rintro j m G3 ⟨rfl, hj, s3, hD3⟩
      have q3 : SqL K G3 r (kp.row.map V.str) := SqL.of (s3 _ _ c2)
      by_cases lj : j < kp.row.length
      · refine .inr ⟨⟨_, V.str kp.row[j], q3, map_at (List.getElem?_eq_getElem lj)⟩, fun H' => j + 1 ≤ kp.row.length ∧ Same H1 H' ∧ H' D = some (SetTx _ D (distT (rows ((allK bd).take i) ++ kp.row.take (j + 1)))), fun H' z => ⟨kp.row.length - (j + 1), by omega, rfl, z⟩, ?_⟩
        rintro x G4 ⟨rfl, y⟩
        have ex : V.str kp.row[j] = x := Option.some.inj ((map_at (f := V.str) (List.getElem?_eq_getElem lj)).symm.trans (y _ q3))
        subst ex
        have dl := distT_len (rows ((allK bd).take i) ++ kp.row.take j)
        rw [List.length_append, List.length_take] at dl
        refine ⟨rfl, _, rfl, _, _, rfl, hD3, by omega, lj, same_over s3 nD, ?_⟩
        rw [upd_same, List.take_succ, List.getElem?_eq_getElem lj, ← List.append_assoc]
        show some (SetTx _ D (withT _ _)) = some (SetTx _ D (distT (_ ++ [kp.row[j]])))
        rw [distT_snoc]
      · refine .inl ⟨⟨_, q3, by rw [List.length_map]; omega⟩, lt, s3, ?_⟩
        rw [hD3, rows_more ek, List.take_of_length_le (l := kp.row) (by omega)]
    · refine .inl ⟨⟨_, q1, by rw [List.length_map]; omega⟩, ?_⟩
      rw [List.take_of_length_le (by omega)] at hD
      refine ⟨D, _, rfl, hD, fun ys q pm srt nq => ?_⟩
      have nq1 : H1 q = none := by
        cases e : H1 q with
        | none => rfl
        | some o =>
          have z := sG _ _ e
          rw [nq] at z
          cases z
      have nq0 : H q = none := by
        cases e : H q with
        | none => rfl
        | some o =>
          have z := s1 _ _ e
          rw [nq1] at z
          cases z
      have rl := rows_len (allK bd) (allK_ok ok)
      have dl := distT_len (rows (allK bd))
      exact k q ys _ nq0 upd_same ⟨pm.nodup_iff.mpr (distT_nd _), fun z => (pm.mem_iff).trans (distT_mem.trans (rows_allR z bd)), srt⟩ (by rw [pm.length_eq]; omega) (fun z hz => rows_w8 ok z ((distT_mem.mp (pm.mem_iff.mp hz)))) (s1.trans (sG.trans (same_new nq)))
end
end My
namespace My
open PySem PySem.Spec PyProof.Rows L2
theorem strOk_lo {z : Str} (h : Lo z) : PyData.strOk z = true := by
  unfold PyData.strOk
  rw [← Array.all_toList, List.all_eq_true]
  exact fun c hc => decide_eq_true (Nat.lt_trans (h c hc) (by decide))
theorem lay_strs : ∀ ws : List Str, W8 ws → PyData.canLayAll0 (ws.map PyData.str) = true
  | [], _ => by rw [List.map_nil, PyData.canLayAll0]
  | z :: r, h => by
    rw [List.map_cons, PyData.canLayAll0, PyData.canLay0, strOk_lo (h z List.mem_cons_self).lo, lay_strs r fun y hy => h y (List.mem_cons_of_mem _ hy)]
    rfl
theorem shaped_strs {ws : List Str} (h : W8 ws) : SeqAt.shaped (dStrs ws) = true := by
  have d := (shw_strs ws).p
  unfold SeqAt.shaped dStrs
  unfold dStrs at d
  rw [PyData.canLay0, lay_strs ws h, decide_eq_true (by omega)]
  rfl
theorem eqv_nil : ∀ ds : List PyData, PyData.eqv (.list ds) (.list []) = ds.isEmpty
  | [] => by rw [PyData.eqv, PyData.eqvAll]; rfl
  | _ :: _ => by rw [PyData.eqv, PyData.eqvAll]; rfl
theorem any_filter (lot : List Str) : ∀ xs : List Str, (!(xs.filter fun y => decide (y ∈ lot)).isEmpty) = xs.any fun y => decide (y ∈ lot)
  | [] => rfl
  | x :: r => by
    rw [List.filter_cons, List.any_cons, ← any_filter lot r]
    by_cases m : x ∈ lot
    · rw [decide_eq_true m]
      rfl
    · rw [decide_eq_false m]
      rfl
end My
namespace My
open PySem PySem.Spec PyProof.Rows L2
open GxR (TabB TabG Tabbed)
abbrev bH (bd : List Tm) (hs : List Str) : List Str → Str → Bool := fun ws z => barB (ws ++ hs) z bd
theorem behB_mono {xs ys : List Str} {z : Str} (s : ∀ x ∈ xs, x ∈ ys) : ∀ {row : List Str}, behB xs z row = true → behB ys z row = true
  | [], h => h
  | a :: r, h => by
    unfold behB at h ⊢
    split at h
    · rename_i e
      rw [if_pos e]
      obtain ⟨y, hy, q⟩ := List.any_eq_true.mp h
      exact List.any_eq_true.mpr ⟨y, hy, decide_eq_true (s y (of_decide_eq_true q))⟩
    · rename_i e
      rw [if_neg e]
      exact behB_mono s h
theorem mayB_mono {xs ys : List Str} {z : Str} {k : Kp} (s : ∀ x ∈ xs, x ∈ ys) (h : mayB k ys z = true) : mayB k xs z = true := by
  unfold mayB at h ⊢
  rw [Bool.or_eq_true] at h ⊢
  rcases h with h | h
  · exact .inl h
  · refine .inr ?_
    rw [Bool.and_eq_true] at h ⊢
    refine ⟨h.1, ?_⟩
    cases hr : k.row with
    | nil => rw [hr] at h; exact h.2
    | cons x r =>
      rw [hr] at h
      exact decide_eq_true fun q => (of_decide_eq_true h.2) (s x q)
theorem filter_le {α : Type} {p q : α → Bool} (h : ∀ x, p x = true → q x = true) : ∀ xs : List α, (xs.filter p).length ≤ (xs.filter q).length
  | [] => Nat.le_refl _
  | x :: r => by
    have ih := filter_le h r
    rw [List.filter_cons, List.filter_cons]
    by_cases e : p x = true
    · rw [if_pos e, if_pos (h x e)]
      exact Nat.succ_le_succ ih
    · rw [if_neg e]
      split
      · exact Nat.le_succ_of_le ih
      · exact ih
theorem mono_bB (bd : List Tm) : Mono (bB bd) := fun xs ys z s h => by
  obtain ⟨t, ht, q⟩ := List.any_eq_true.mp h
  refine List.any_eq_true.mpr ⟨t, ht, ?_⟩
  unfold barT at q ⊢
  rw [Bool.or_eq_true] at q ⊢
  rcases q with q | q
  · obtain ⟨k, hk, q⟩ := List.any_eq_true.mp q
    exact .inl (List.any_eq_true.mpr ⟨k, hk, behB_mono s q⟩)
  · have l := filter_le (p := fun k => mayB k ys z) (q := fun k => mayB k xs z) (fun k h => mayB_mono s h) t.ks
    have q := of_decide_eq_true q
    exact .inr (decide_eq_true (by omega))
theorem mono_bH (bd : List Tm) (hs : List Str) : Mono (bH bd hs) := fun xs ys z s h => mono_bB bd (xs ++ hs) (ys ++ hs) z (fun x hx => by
  rcases List.mem_append.mp hx with q | q
  · exact List.mem_append_left _ (s x q)
  · exact List.mem_append_right _ q) h
theorem bH_nil (bd : List Tm) : bH bd [] = bB bd := by
  funext ws z
  show barB (ws ++ []) z bd = barB ws z bd
  rw [List.append_nil]
def spLeftOf (C : Cd) : Sp := fun vs H Q _ => ∃ (b l h : Addr) (bd : List Tm) (us ws hs : List Str), vs = [.ref b, .ref l, .ref h] ∧ BarsIn H b us bd ∧ BdOk bd ∧ BdF bd ∧ H l = some (.lst (ws.map V.str)) ∧ H h = some (.lst (hs.map V.str)) ∧
  (∀ z ∈ ws, z ∈ us) ∧ ws.Nodup ∧ (∀ z ∈ ws, z ∉ hs) ∧ ws.length ≤ 1000 ∧ hs.length ≤ 1000 ∧ Tbs C.tabs H ∧
  ∀ (p : Addr) (ys : List Str) (H' : Hp), H p = none → H' p = some (.lst (ys.map V.str)) → Great (bH bd hs) ws ys → Gr C.tabs H H' → Q (.ref p) H'
def spStuck (C : Cd) : Sp := fun vs H Q _ => ∃ (a : Addr) (bd : List Tm), vs = [.ref a] ∧ BdAt H a bd ∧ BdOk bd ∧ BdF bd ∧ Tbs C.tabs H ∧
  ∀ (p : Addr) (ks ys : List Str) (H' : Hp), H p = none → H' p = some (.lst (ys.map V.str)) → Known bd ks → Great (bB bd) ks ys → ks.length ≤ 288 → W8 ks → Gr C.tabs H H' → Q (.ref p) H'
section
variable {P : Program} {w : World} {K : PySem.W.Frag} {mg : Str → Option Value} {base : Heap} {A : Ad} {C : Cd}
theorem ok_left_of (T : Txt K mg A) (TB : TBs base mg C A) : FnOk P w K mg base CX0 3 A.f_left_of A.d_left_of P_left_of (spLeftOf C) := by
  refine T.F_left_of.ok sc_left_of (fun vs H Q E h => ?_) (fun cdv A' outer s H vs Q E hr h => ?_)
  · obtain ⟨b, l, h, bd, us, ws, hs, rfl, _⟩ := h
    rfl
  · obtain ⟨b, l, h, bd, us, ws, hs, rfl, hb, ok, bf, hl, hh, sub, nd, dis, l288, h288, tb, k⟩ := h
    refine ⟨_, (pss_cons (ps_setDc (i := 4) (own := [("thing", 3)]) (tt := tYes) (g := (gName 3)) rfl sc_left_of.nd rfl rfl (sw_trueD rfl rfl rfl (by decide +kernel)) (pi_listK (K := K) rfl (pe_lst (pa_starK (K := K) rfl (pv 1) (pa_starK (K := K) rfl (pv 2) pa_nil)))) (blkOk_by (own := [("thing", 3)]) (N := N_left_of) (sc := defScope s_left_of) (by decide +kernel)) (fun _ _ _ _ _ => (pg_name (i := 3) sc_left_of.nd rfl (Or.inl rfl))) (fun _ _ _ _ _ => pts_nil) (fun _ _ _ _ _ => by exact (pv 3)) (fun _ _ _ _ _ => by exact pe_bl))
    (pss_cons (ps_set (i := 5) sc_left_of.nd rfl (Or.inl rfl) (pv 1))
    (pss_cons (ps_set (i := 6) sc_left_of.nd rfl (Or.inl rfl) (pe_op op_add (pe_callB (len_seqK (K := K) rfl) (by rfl) T.n_len PySem.boot_len (pa_cons (pv 5) pa_nil)) pe_int))
    (pss_cons (ps_while PassesOwn.never (pt_cmpR op_lt (pe_callB (len_seqK (K := K) rfl) (by rfl) T.n_len PySem.boot_len (pa_cons (pv 5) pa_nil)) (pv 6) (nomark _))
      (pss_cons (ps_set (i := 6) sc_left_of.nd rfl (Or.inl rfl) (pe_callB (len_seqK (K := K) rfl) (by rfl) T.n_len PySem.boot_len (pa_cons (pv 5) pa_nil)))
      (pss_cons (ps_set (i := 7) sc_left_of.nd rfl (Or.inl rfl) (pe_lst pa_nil))
      (pss_cons (ps_for PassesOwn.never rfl (pi_listK (K := K) rfl (pv 5)) (pg_name (i := 3) sc_left_of.nd rfl (Or.inl rfl))
        (pss_one (ps_if (pt_val (pe_call (ok_is_barred T TB) (hr.mono (by decide)) rfl T.g_is_barred T.F_is_barred.kp T.b_is_barred .nil pass0 (pa_cons (pe_dget (hu_of hr) (pv 0) (pv 3) (fun _ _ => rfl)) (pa_cons (pv 4) pa_nil))))
          (pss_one (ps_expr (pe_K (K := K) rfl (pe_bm PySem.F.plainAttrs_list PySem.F.slot_list_append PySem.F.type_list_append mt_append (by exact (pv 7)) (by exact (pa_cons (pv 3) pa_nil))))))
          (pss_one (ps_ddel (pv 4) (pv 3))))))
      (pss_one (ps_set (i := 5) sc_left_of.nd rfl (Or.inl rfl) (pv 7)))))))
    (pss_one (ps_ret (pv 5))))))), ?_⟩
    have e0 : ws.map V.str ++ (hs.map V.str ++ []) = (ws ++ hs).map V.str := by simp
    refine ⟨_, rfl, l, _, rfl, .inr (SqL.of hl), _, rfl, h, _, rfl, .inr (SqL.of hh), (by rw [e0, List.length_map, List.length_append, sizeLine_eq]; omega), fun q nq => ?_⟩
    rw [e0]
    have s0 := same_new (o := .lst ((ws ++ hs).map V.str)) nq
    refine ⟨q, rfl, ⟨_, SqL.of upd_same⟩, fun D nD => ?_⟩
    have nD0 : H D = none := free_of s0 nD
    refine dc_it (walk_list (K := K) (a := q) (xs := (ws ++ hs).map V.str)) (fun i G => Same (upd H q (.lst ((ws ++ hs).map V.str))) G ∧ ∃ kvs : List (Key × V), G D = some (.dK kvs) ∧ KeysOf kvs ((ws ++ hs).take i))
      ⟨same_new nD, [], upd_same, KeysOf.nil⟩ (fun i G _ z => SqL.of (z.1 _ _ upd_same)) ?_ ?_
    · rintro i x G G' hi ⟨sG, kvs, hD, kk⟩ ⟨rfl, hx⟩
      obtain ⟨z, hz, rfl⟩ := item_str hx
      refine ⟨rfl, ?_⟩
      rw [List.length_map, List.length_append] at hi
      have k2 := kk.2
      rw [List.length_take, List.length_append] at k2
      refine ⟨_, rfl, kvs, kS z, rfl, hD, by rw [sizeLine_eq]; omega, ?_, _, upd_same, ?_⟩
      · intro c o e
        have ne : c ≠ D := ne_of_none e nD
        rw [upd_ne ne]
        exact sG _ _ e
      · rw [List.take_succ, hz]
        exact kk.put z _
    · rintro G ⟨sG, kvs, hD, kk⟩
      rw [List.length_map, List.take_of_length_le (Nat.le_refl _)] at kk
      have sHG := s0.trans sG
      have g0 := (Gr.refl tb).same sHG
      have hl0 := sHG _ _ hl
      have dl : DKeys G D (ws ++ hs) := ⟨kvs, hD, kk.1⟩
      have std : ∀ {F : Hp}, Gr C.tabs H F → Std H F := fun g => g.std tb
      have up : ∀ {F : Hp} {c : Addr}, Gr C.tabs H F → F c = none → H c = none := fun {F c} g n => by
        cases e : H c with
        | none => rfl
        | some o =>
          have q := g.keep c o (fun m => by
            obtain ⟨xs, r, _⟩ := g.tb c m
            rw [n] at r
            cases r) e
          rw [n] at q
          cases q
      refine ⟨_, rfl, _, rfl, l, _, rfl, .inl (SqL.of hl0), _, _, rfl, rfl, ?_⟩
      refine gn_nx (sq_of (while_ix (ws.length + 1) (fun i σ F => Gr C.tabs H F ∧ ∃ (x : Addr) (ys : List Str) (c : Int) (v6 v7 : Option V), σ = [some (.ref b), some (.ref l), some (.ref h), v6, some (.ref D), some (.ref x), some (.int c), v7] ∧
          F x = some (.lst (ys.map V.str)) ∧ DKeys F D (ys ++ hs) ∧ ys.Sublist ws ∧ (∀ S : List Str, (∀ z ∈ S, z ∈ ws) → (∀ z ∈ S, bH bd hs S z = true) → ∀ z ∈ S, z ∈ ys) ∧
          ((ys.length : Int) < c → ys.length + i ≤ ws.length) ∧ (¬ (ys.length : Int) < c → H x = none ∧ ∀ z ∈ ys, bH bd hs ys z = true))
        ⟨g0, l, ws, _, _, _, rfl, hl0, dl, List.Sublist.refl _, (fun S hs _ => hs), (fun _ => Nat.le_refl _), fun n => absurd (by rw [List.length_map]; omega) n⟩ ?_ ?_))
      · rintro i σ F ⟨gF, x, ys, c, v6, v7, rfl, hx, dk, ysub, top, cnt, fin⟩
        have yl := ysub.length_le
        refine ⟨_, rfl, x, _, rfl, .inl (SqL.of hx), _, rfl, _, _, rfl, rfl, _, rfl, ?_⟩
        rw [List.length_map]
        by_cases lt : (ys.length : Int) < c
        · rw [decide_eq_true lt]
          have cn := cnt lt
          refine iteT ⟨by omega, ?_⟩
          refine ⟨_, rfl, x, _, rfl, .inl (SqL.of hx), ?_⟩
          rw [List.length_map]
          refine ⟨(show 0 ≤ sizeLine by decide), fun k0 nk => ?_⟩
          have xk : x ≠ k0 := ne_of_none hx nk
          have dk1 : DKeys (upd F k0 (.lst [])) D (ys ++ hs) := dk.same (same_new nk)
          obtain ⟨kvs0, hD0, _⟩ := dk
          have Dk : D ≠ k0 := ne_of_none hD0 nk
          have xD : x ≠ D := fun q => by rw [q, hD0] at hx; cases hx
          have nk0 := up gF nk
          refine ⟨_, rfl, x, rfl, ⟨_, SqL.of ((upd_ne xk).trans hx)⟩, for_list (K := K) (a := x) (xs := ys.map V.str) (fun m σ E => Gr C.tabs H E ∧ E x = some (.lst (ys.map V.str)) ∧ ∃ (kp : List Str) (v7 : Option V), σ = [some (.ref b), some (.ref l), some (.ref h), v7, some (.ref D), some (.ref x), some (.int ys.length), some (.ref k0)] ∧
              E k0 = some (.lst (kp.map V.str)) ∧ kp.Sublist (ys.take m) ∧ DKeys E D ((kp ++ ys.drop m) ++ hs) ∧ (∀ z ∈ kp, bH bd hs ys z = true) ∧ (∀ S : List Str, (∀ z ∈ S, z ∈ ws) → (∀ z ∈ S, bH bd hs S z = true) → ∀ z ∈ S, z ∈ kp ++ ys.drop m))
            ⟨gF.same (same_new nk), (upd_ne xk).trans hx, [], _, rfl, upd_same, List.nil_sublist _, dk1, (fun z h => nomatch h), top⟩ (fun m σ E _ z => SqL.of z.2.1) ?_ ?_⟩
          · rintro m x' σ E hm ⟨gE, hxE, kp, v7, rfl, hk, ksub, dkE, kbar, ktop⟩
            obtain ⟨z, hz, rfl⟩ := item_str hm
            have zm := List.mem_of_getElem? hz
            have zw := ysub.subset zm
            have ml : m < ys.length := (List.getElem?_eq_some_iff.mp hz).1
            have kl := ksub.length_le
            rw [List.length_take] at kl
            have ed : ys.drop m = z :: ys.drop (m + 1) := by
              rw [List.drop_eq_getElem_cons ml]
              congr 1
              exact Option.some.inj ((List.getElem?_eq_getElem ml).symm.trans hz)
            have ynd : ys.Nodup := ysub.nodup nd
            have yd : ys = ys.take m ++ z :: ys.drop (m + 1) := by rw [← ed, List.take_append_drop]
            have znk : z ∉ kp := fun q => by
              have : z ∈ ys.take m := ksub.subset q
              rw [yd, List.nodup_append] at ynd
              exact ynd.2.2 z this z List.mem_cons_self rfl
            have znd : z ∉ ys.drop (m + 1) := fun q => by
              rw [yd, List.nodup_append] at ynd
              exact (List.nodup_cons.mp ynd.2.1).1 q
            have dsub : ∀ y ∈ kp ++ ys.drop m, y ∈ ys := fun y hy => by
              rcases List.mem_append.mp hy with q | q
              · exact List.mem_of_mem_take (ksub.subset q)
              · exact List.mem_of_mem_drop q
            obtain ⟨a1, dg, br⟩ := (hb.std (std gE)).get (sub z zw)
            obtain ⟨z1, z2⟩ := brOf_sz (z := z) (u := Str.empty) ok
            refine ⟨_, rfl, _, rfl, b, .ref a1, rfl, dg, _, rfl, a1, D, _, (kp ++ ys.drop m) ++ hs, rfl, br, dkE, z1, z2, gE.tb, fun E1 g1 => ?_⟩
            rw [brB_eq bf.f bf.nn]
            have st1 := g1.std gE.tb
            have gE1 := gE.trans g1
            have hxE1 := st1 _ _ hxE fun ps q => by cases q
            have hk1 := st1 _ _ hk fun ps q => by cases q
            have dkE1 := dkE.std st1
            obtain ⟨kvs1, hD1, kk1⟩ := dkE1
            refine ⟨_, rfl, ?_⟩
            cases hbz : barB ((kp ++ ys.drop m) ++ hs) z bd with
            | true =>
              refine iteT ?_
              refine ⟨_, rfl, .inl ⟨rfl, _, SqL.of hk1⟩, _, rfl, k0, _, _, rfl, rfl, hk1, by rw [List.length_map, sizeLine_eq]; omega, ?_⟩
              have em : (kp ++ [z]) ++ ys.drop (m + 1) = kp ++ ys.drop m := by rw [ed, List.append_assoc]; rfl
              refine ⟨gE1.over nk0 hk1 (fun xs q => by cases q), (upd_ne xk).trans hxE1, kp ++ [z], _, rfl, by rw [upd_same, List.map_append]; rfl, ?_, ?_, ?_, ?_⟩
              · rw [List.take_succ, hz]
                exact ksub.append (List.Sublist.refl _)
              · rw [em]
                exact ⟨kvs1, (upd_ne Dk).trans hD1, kk1⟩
              · intro y hy
                rcases List.mem_append.mp hy with q | q
                · exact kbar y q
                · rw [List.mem_singleton.mp q]
                  exact mono_bH bd hs _ ys z dsub hbz
              · rw [em]
                exact ktop
            | false =>
              refine iteF ?_
              refine ⟨_, rfl, _, rfl, D, kvs1, kS z, rfl, hD1, rfl, ?_, ?_⟩
              · rw [kk1 z]
                exact decide_eq_true (List.mem_append_left _ (List.mem_append_right _ (by rw [ed]; exact List.mem_cons_self)))
              refine ⟨gE1.over nD0 hD1 (fun xs q => by cases q), (upd_ne xD).trans hxE1, kp, _, rfl, (upd_ne Dk.symm).trans hk1, by rw [List.take_succ]; exact ksub.trans (List.sublist_append_left _ _), ?_, kbar, ?_⟩
              · refine ⟨_, upd_same, fun y => ?_⟩
                rw [valV_drop]
                by_cases e : kS y = kS z
                · have e1 : y = z := Sum.inr.inj e
                  subst e1
                  rw [if_pos e]
                  symm
                  refine decide_eq_false fun q => ?_
                  rcases List.mem_append.mp q with q | q
                  · rcases List.mem_append.mp q with q | q
                    · exact znk q
                    · exact znd q
                  · exact dis y zw q
                · have e1 : ¬ y = z := fun q => e (by rw [q])
                  rw [if_neg e, kk1 y, ed]
                  refine decide_eq_decide.mpr ?_
                  simp only [List.mem_append, List.mem_cons]
                  constructor
                  · rintro ((q | q | q) | q)
                    · exact .inl (.inl q)
                    · exact absurd q e1
                    · exact .inl (.inr q)
                    · exact .inr q
                  · rintro ((q | q) | q)
                    · exact .inl (.inl q)
                    · exact .inl (.inr (.inr q))
                    · exact .inr q
              · intro S hS hbS y hy
                have q := ktop S hS hbS y hy
                have ne : y ≠ z := fun e => by
                  have := mono_bH bd hs S (kp ++ ys.drop m) z (ktop S hS hbS) (hbS z (e ▸ hy))
                  rw [show bH bd hs (kp ++ ys.drop m) z = false from hbz] at this
                  exact absurd this (by decide)
                rw [ed] at q
                rcases List.mem_append.mp q with q | q
                · exact List.mem_append_left _ q
                · exact List.mem_append_right _ ((List.mem_cons.mp q).resolve_left ne)
          · rintro σ E ⟨gE, hxE, kp, v7, rfl, hk, ksub, dkE, kbar, ktop⟩
            rw [List.length_map, List.take_length] at ksub
            rw [List.length_map, List.drop_length, List.append_nil] at dkE ktop
            have kl := ksub.length_le
            refine ⟨_, rfl, gE, k0, kp, _, _, _, rfl, hk, dkE, ksub.trans ysub, ktop, (fun q => by omega), fun q => ⟨nk0, ?_⟩⟩
            have ek : kp = ys := ksub.eq_of_length (by omega)
            rw [ek] at kbar ⊢
            exact kbar
        · rw [decide_eq_false lt]
          obtain ⟨nx, bar⟩ := fin lt
          refine iteF ?_
          exact ⟨_, rfl, k x ys F nx hx ⟨ysub, bar, top⟩ gF⟩
      · intro σ H Q Q' f h
        obtain ⟨v, e, a, c, e1, e2, v2, e3, i, j, e4, e5, kk, ek, q⟩ := h
        exact ⟨v, e, a, c, e1, e2, v2, e3, i, j, e4, e5, kk, ek, f _ _ q⟩
theorem ok_stuck (T : Txt K mg A) (TB : TBs base mg C A) : FnOk P w K mg base CX0 4 A.f_stuck A.d_stuck P_stuck (spStuck C) := by
  refine T.F_stuck.ok sc_stuck (fun vs H Q E h => ?_) (fun cdv A' outer s H vs Q E hr h => ?_)
  · obtain ⟨a, bd, rfl, _⟩ := h
    rfl
  · obtain ⟨a, bd, rfl, hb, ok, bf, tb, k⟩ := h
    refine ⟨_, (pss_cons (ps_set (i := 1) sc_stuck.nd rfl (Or.inl rfl) (pe_call (ok_p_things T) (hr.mono (by decide)) rfl T.g_p_things T.F_p_things.kp T.b_p_things .nil pass0 (pa_cons (pv 0) pa_nil)))
    (pss_one (ps_ret (pe_call (ok_left_of T TB) (hr.mono (by decide)) rfl T.g_left_of T.F_left_of.kp T.b_left_of .nil pass0 (pa_cons (pe_call (ok_bars_of T) (hr.mono (by decide)) rfl T.g_bars_of T.F_bars_of.kp T.b_bars_of .nil pass0 (pa_cons (pv 0) (pa_cons (pv 1) pa_nil))) (pa_cons (pv 1) (pa_cons (pe_lst pa_nil) pa_nil))))))), ?_⟩
    refine ⟨_, rfl, a, bd, rfl, hb, ok, fun f ks H1 nf hf kn kl w8 s1 => ?_⟩
    refine ⟨_, rfl, _, rfl, a, f, bd, ks, rfl, hb.same s1, ok, bf, hf, by omega, fun c H2 nc s2 hbar => ?_⟩
    have hf2 := s2 _ _ hf
    refine ⟨_, rfl, (show 0 ≤ sizeLine by decide), fun e ne => ?_⟩
    have s3 := same_new (o := .lst []) ne
    have s03 := s1.trans (s2.trans s3)
    have g3 := (Gr.refl tb).same s03
    refine ⟨c, f, e, bd, ks, ks, [], rfl, hbar.same s3, ok, bf, s3 _ _ hf2, upd_same, (fun z h => h), kn.nd, (fun z _ h => nomatch h), by omega, Nat.zero_le _, g3.tb, fun p ys H4 np hp gr g4 => ?_⟩
    rw [bH_nil] at gr
    exact k p ks ys H4 (free_of s03 np) hp kn gr kl w8 (g3.trans g4)
end
end My
namespace My
open PySem PySem.Spec PyProof.Rows L2
open GxR (TabB TabG Tabbed)
structure Ph (C : Cd) (Hk G : Hp) (j : Addr) (n : Nat) : Prop where
  jg : Jug G j n
  g : Gr C.tabs Hk G
  nj : Hk j = none
section
variable {C : Cd} {Hk G G' : Hp} {j p : Addr} {n m : Nat}
theorem Ph.fresh (s : Ph C Hk G j n) (h : G p = none) : New1 Hk j p := by
  refine ⟨?_, s.jg.ne h⟩
  cases e : Hk p with
  | none => rfl
  | some o =>
    by_cases hp : p ∈ C.tabs
    · obtain ⟨xs, y, _⟩ := s.g.tb p hp
      rw [h] at y
      cases y
    · have q := s.g.keep p o hp e
      rw [h] at q
      cases q
theorem Ph.dip (s : Ph C Hk G j n) (jg : Jug G' j m) (x : Ex1 j G G') : Ph C Hk G' j m := by
  refine ⟨jg, ⟨fun p hp => ?_, fun c v nc e => x c v (fun z => ?_) (s.g.keep c v nc e)⟩, s.nj⟩
  · obtain ⟨xs, y, r⟩ := s.g.tb p hp
    refine ⟨xs, x p _ (fun z => ?_) y, r⟩
    obtain ⟨a, b, c, e, _⟩ := s.jg
    rw [z, e] at y
    cases y
  · rw [z, s.nj] at e
    cases e
theorem Ph.more (s : Ph C Hk G j n) (l : n ≤ m) : Ph C Hk G j m := ⟨s.jg.more l, s.g, s.nj⟩
theorem Ph.new (s : Ph C Hk G j n) (h : G p = none) {o : HO} : Ph C Hk (upd G p o) j n := ⟨s.jg.put (s.jg.ne h), s.g.new h, s.nj⟩
theorem Ph.over (s : Ph C Hk G j n) (np : New1 Hk j p) {u o : HO} (h : G p = some u) (nt : ∀ xs, u ≠ .tbl xs) : Ph C Hk (upd G p o) j n := ⟨s.jg.put np.2, s.g.over np.1 h nt, s.nj⟩
theorem Ph.same (s : Ph C Hk G j n) (x : Same G G') : Ph C Hk G' j n := ⟨by
  obtain ⟨a, b, c, e, r⟩ := s.jg
  exact ⟨a, b, c, x _ _ e, r⟩, s.g.same x, s.nj⟩
theorem FT.same {τ : Addr → Option Kd} (t : FT τ G) (s : Same G G') : FT τ G' := t.std fun c o h _ => s c o h
end
def Sj (j : Addr) (A B : Hp) : Prop := ∀ c o, c ≠ j → A c = some o → (∀ ps, o ≠ .tbl ps) → B c = some o
theorem Sj.refl (j : Addr) (A : Hp) : Sj j A A := fun _ _ _ h _ => h
theorem Sj.trans {j : Addr} {A B D : Hp} (x : Sj j A B) (y : Sj j B D) : Sj j A D := fun c o n h t => y c o n (x c o n h t) t
theorem Sj.ex {j : Addr} {A B : Hp} (x : Ex1 j A B) : Sj j A B := fun c o n h _ => x c o n h
theorem Sj.same {j : Addr} {A B : Hp} (x : Same A B) : Sj j A B := fun c o _ h _ => x c o h
theorem Sj.std {j : Addr} {A B : Hp} (x : Std A B) : Sj j A B := fun c o _ h t => x c o h t
theorem Sj.of1 {j : Addr} {A B : Hp} (x : Sj j A B) : Std (Of1 j A) B := fun c o h t => by
  obtain ⟨h1, h2⟩ := of1_some h
  exact x c o h1 h2 t
theorem FT.sj {τ : Addr → Option Kd} {Hk A B : Hp} {j : Addr} (t : FT τ A) (nt : Nt τ Hk j) (s : Sj j A B) : FT τ B := t.keep fun a h => by
  have n := (nt a h).2
  cases e : τ a with
  | none => exact absurd e h
  | some k =>
    cases k with
    | row => obtain ⟨ws, q, _⟩ := t.row a e; rw [q]; exact s _ _ n q fun ps z => by cases z
    | kep => obtain ⟨z, room, wh, r, q, _⟩ := t.kep a e; rw [q]; exact s _ _ n q fun ps z => by cases z
    | crew => obtain ⟨as, q, _⟩ := t.crew a e; rw [q]; exact s _ _ n q fun ps z => by cases z
    | team => obtain ⟨l, c, q, _⟩ := t.team a e; rw [q]; exact s _ _ n q fun ps z => by cases z
theorem Hall.sj {τ : Addr → Option Kd} {Hk A B : Hp} {j p : Addr} {as : List Addr} (h : Hall τ Hk A j p as) (s : Sj j A B) : Hall τ Hk B j p as :=
  ⟨h.t.sj h.nt s, h.nt, s _ _ h.np.2 h.h (fun ps z => by cases z), h.np, h.up, h.ok, h.l⟩
theorem Hall.off {τ : Addr → Option Kd} {Hk A : Hp} {j p : Addr} {as : List Addr} (h : Hall τ Hk A j p as) : Hall τ Hk (Of1 j A) j p as :=
  ⟨h.t.keep fun a q => of1_eq (h.nt a q).2, h.nt, (of1_eq h.np.2).trans h.h, h.np, h.up, h.ok, h.l⟩
theorem Ph.gr {C : Cd} {Hk G G' : Hp} {j : Addr} {n : Nat} (s : Ph C Hk G j n) (g : Gr C.tabs G G') : Ph C Hk G' j n := ⟨by
  obtain ⟨a, b, c, e, r⟩ := s.jg
  exact ⟨a, b, c, g.std s.g.tb _ _ e (fun ps z => by cases z), r⟩, s.g.trans g, s.nj⟩
theorem Sj.of2 {j : Addr} {A B : Hp} (x : Sj j A B) : Std (Of1 j A) (Of1 j B) := fun c o h t => by
  obtain ⟨h1, h2⟩ := of1_some h
  rw [of1_eq h1]
  exact x c o h1 h2 t
/-- plain signs -/
def LoW (ws : List Str) : Prop := ∀ z ∈ ws, Lo z
theorem W8.lo {ws : List Str} (h : W8 ws) : LoW ws := fun z hz => (h z hz).lo
theorem lay_lo : ∀ ws : List Str, LoW ws → PyData.canLayAll0 (ws.map PyData.str) = true
  | [], _ => by rw [List.map_nil, PyData.canLayAll0]
  | z :: r, h => by
    rw [List.map_cons, PyData.canLayAll0, PyData.canLay0, strOk_lo (h z List.mem_cons_self), lay_lo r fun y hy => h y (List.mem_cons_of_mem _ hy)]
    rfl
theorem shaped_lo {ws : List Str} (h : LoW ws) : SeqAt.shaped (dStrs ws) = true := by
  have d := (shw_strs ws).p
  unfold SeqAt.shaped dStrs
  unfold dStrs at d
  rw [PyData.canLay0, lay_lo ws h, decide_eq_true (by omega)]
  rfl
theorem eqv_strs2 : ∀ xs ys : List Str, PyData.eqvAll (xs.map PyData.str) (ys.map PyData.str) = decide (xs = ys)
  | [], [] => by rw [List.map_nil, PyData.eqvAll]; rfl
  | [], y :: r => by rw [List.map_nil, List.map_cons, PyData.eqvAll]; simp
  | x :: r, [] => by rw [List.map_nil, List.map_cons, PyData.eqvAll]; simp
  | x :: r, y :: s => by
    rw [List.map_cons, List.map_cons, PyData.eqvAll, eqv_strs2 r s, PyData.eqv]
    by_cases e : x = y
    · subst e
      simp
    · simp [e]
theorem eqv_dec (xs ys : List Str) : PyData.eqv (dStrs xs) (dStrs ys) = decide (xs = ys) := by
  unfold dStrs
  rw [PyData.eqv]
  exact eqv_strs2 xs ys
theorem cut_to {α : Type} {f : α → V} {xs : List α} {k : Nat} : cutV (xs.map f) none (some (k : Int)) = (xs.take k).map f := by
  unfold cutV
  rw [HT.sIx_none, HT.sIx_nat, List.drop_zero, Nat.sub_zero, List.map_take]
  have e : (xs.map f).length = xs.length := List.length_map _
  rw [e]
  by_cases l : k ≤ xs.length
  · rw [Nat.min_eq_left l]
  · rw [Nat.min_eq_right (by omega), List.take_of_length_le (by rw [e]; exact Nat.le_refl _), List.take_of_length_le (by rw [e]; omega)]
/-- a lot of the board -/
structure LotP (bd : List Tm) (ws : List Str) : Prop where
  nd : ws.Nodup
  srt : Sorted ws
  mem : ∀ z ∈ ws, z ∈ allR bd
theorem Sorted.sub {xs ys : List Str} (h : Sorted ys) (s : xs.Sublist ys) : Sorted xs := List.Pairwise.sublist s h
theorem lot_iff {bd : List Tm} {ys ws : List Str} (k : Known bd ys) : ws = ys.filter (fun z => decide (z ∈ ws)) ↔ LotP bd ws := by
  constructor
  · intro e
    have s : ws.Sublist ys := by
      have := List.filter_sublist (p := fun z => decide (z ∈ ws)) (l := ys)
      rw [← e] at this
      exact this
    exact ⟨s.nodup k.nd, k.srt.sub s, fun z hz => (k.mem z).mp (s.subset hz)⟩
  · intro h
    have s : (ys.filter (fun z => decide (z ∈ ws))).Sublist ys := List.filter_sublist
    refine rise_one h.nd (s.nodup k.nd) (fun z => ?_) h.srt (k.srt.sub s)
    rw [List.mem_filter]
    exact ⟨fun q => ⟨(k.mem z).mpr (h.mem z q), decide_eq_true q⟩, fun q => of_decide_eq_true q.2⟩
def StuckP (bd : List Tm) (ws : List Str) : Prop := ws ≠ [] ∧ LotP bd ws ∧ frees (bB bd) ws = []
end My
namespace My
open PySem PySem.Spec PyProof.Rows L2
open GxR (TabB TabG Tabbed)
def NoneBars (bd : List Tm) (ws : List Str) : Prop := ∀ (i : Nat) (z : Str), ws[i]? = some z → barB (ws.take (i + 1)) z bd = false
def CanP (bd : List Tm) (ws : List Str) : Prop := (∃ ks, Known bd ks ∧ ws.Perm ks) ∧ NoneBars bd ws
theorem dp_ints {K : PySem.W.Frag} {H : Hp} : ∀ ns : List Int, DpAll K H (ns.map V.int) (ns.map PyData.int)
  | [] => .nil
  | x :: r => .cons (.int x) (dp_ints r)
theorem shaped_ints (ns : List Int) : SeqAt.shaped (.list (ns.map PyData.int)) = true := by
  have a : ∀ ns : List Int, PyData.canLayAll0 (ns.map PyData.int) = true := fun ns => by
    induction ns with
    | nil => rw [List.map_nil, PyData.canLayAll0]
    | cons x r ih => rw [List.map_cons, PyData.canLayAll0, ih, PyData.canLay0]; rfl
  have d : PyData.depth (.list (ns.map PyData.int)) ≤ 1 := by
    rw [PyData.depth]
    refine Nat.succ_le_succ (all_depth (m := 0) fun d hd => ?_)
    obtain ⟨x, _, rfl⟩ := List.mem_map.mp hd
    rw [PyData.depth]
    exact Nat.le_refl _
  unfold SeqAt.shaped
  rw [PyData.canLay0, a ns, decide_eq_true (by omega)]
  rfl
def spCan (C : Cd) : Sp := fun vs H Q _ => ∃ (p l : Addr) (bd : List Tm) (ws : List Str), vs = [.ref p, .ref l] ∧ BdAt H p bd ∧ BdOk bd ∧ BdF bd ∧ H l = some (.lst (ws.map V.str)) ∧ LoW ws ∧ ws.length ≤ 1000 ∧ Tbs C.tabs H ∧
  ∀ (b : Bool) (H' : Hp), Gr C.tabs H H' → (b = true ↔ CanP bd ws) → Q (.bl b) H'
section
variable {P : Program} {w : World} {K : PySem.W.Frag} {mg : Str → Option Value} {base : Heap} {A : Ad} {C : Cd}
theorem ok_can_have (T : Txt K mg A) (TB : TBs base mg C A) : FnOk P w K mg base CX0 3 A.f_can_have A.d_can_have P_can_have (spCan C) := by
  obtain ⟨ds, rds, bbs⟩ := T.F_bar_of.binds1 (ps := P_bar_of) 2 0 (by simp) rfl fun _ _ _ _ _ _ _ us its hl hi => match us, its, hl, hi with
    | [_, _], [_], _, _ => ⟨_, rfl, rfl⟩
  refine T.F_can_have.ok sc_can_have (fun vs H Q E h => ?_) (fun cdv A' outer s H vs Q E hr h => ?_)
  · obtain ⟨p, l, bd, ws, rfl, _⟩ := h
    rfl
  · obtain ⟨p, l, bd, ws, rfl, hb, ok, bf, hl, lo, l1000, tb, k⟩ := h
    refine ⟨_, (pss_cons (ps_if (pt_cmpR (neDK (K := K) rfl hr.units) (pe_callB (sortedLK (K := K) rfl) (by rfl) T.n_sorted (by decide +kernel) (pa_cons (pv 1) pa_nil)) (pe_call (ok_p_things T) (hr.mono (by decide)) rfl T.g_p_things T.F_p_things.kp T.b_p_things .nil pass0 (pa_cons (pv 0) pa_nil)) (nomark _))
      (pss_one (ps_ret pe_bl))
      pss_nil)
    (pss_cons (ps_set (i := 2) sc_can_have.nd rfl (Or.inl rfl) pe_dnewK)
    (pss_cons (ps_for PassesOwn.never rfl (pi_listK (K := K) rfl (pv 1)) (pg_name (i := 3) sc_can_have.nd rfl (Or.inl rfl))
      (pss_cons (ps_dput (hu_of hr) (pv 2) (pv 3) pe_bl (by rfl))
      (pss_one (ps_if (pt_val (pe_call (ok_is_barred T TB) (hr.mono (by decide)) rfl T.g_is_barred T.F_is_barred.kp T.b_is_barred .nil pass0 (pa_cons (pe_call (ok_bar_of T) (hr.mono (by decide)) rfl T.g_bar_of T.F_bar_of.kp bbs rds pass0 (pa_cons (pv 0) (pa_cons (pv 3) pa_nil))) (pa_cons (pv 2) pa_nil))))
        (pss_one (ps_ret pe_bl))
        pss_nil))))
    (pss_one (ps_ret pe_bl))))), ?_⟩
    refine ⟨_, rfl, l, ws, rfl, SqL.of hl, fun ss c pm srt nc => ?_⟩
    have s1 := same_new (o := .lst (ss.map V.str)) nc
    refine ⟨_, rfl, p, bd, rfl, hb.same s1, ok, fun a ks H2 na ha kn kl w8 s2 => ?_⟩
    have s12 := s1.trans s2
    have los : LoW ss := fun z hz => lo z (pm.mem_iff.mp hz)
    refine ⟨dStrs ss, dStrs ks, .lst (SqL.of (s2 _ _ upd_same)) (dp_strs _), .lst (SqL.of ha) (dp_strs _), shaped_lo los, shaped_lo w8.lo, _, rfl, ?_⟩
    rw [eqv_dec]
    have perm : ss = ks ↔ ∃ ks, Known bd ks ∧ ws.Perm ks := by
      constructor
      · intro e
        exact ⟨ks, kn, by rw [← e]; exact pm.symm⟩
      · intro ⟨ks', kn', pm'⟩
        rw [kn.uniq kn']
        exact sorted_one (pm.trans pm') srt kn'.srt
    have g2 := (Gr.refl tb).same s12
    by_cases es : ss = ks
    · rw [decide_eq_true es]
      refine iteF (to_nx ?_)
      refine fun D nD => ?_
      have nD0 := free_of s12 nD
      have hl2 := s12 _ _ hl
      have lD : l ≠ D := ne_of_none hl2 nD
      refine ⟨_, rfl, l, rfl, ⟨_, SqL.of ((upd_ne lD).trans hl2)⟩, for_list (K := K) (a := l) (xs := ws.map V.str) (fun i σ G => Gr C.tabs H G ∧ (∃ kvs : List (Key × V), G D = some (.dK kvs) ∧ KeysOf kvs (ws.take i)) ∧ (∀ (m : Nat) (z : Str), m < i → ws[m]? = some z → barB (ws.take (m + 1)) z bd = false) ∧ ∃ v3 : Option V, σ = [some (.ref p), some (.ref l), some (.ref D), v3])
        ⟨g2.same (same_new nD), ⟨[], upd_same, KeysOf.nil⟩, (fun m z h => absurd h (Nat.not_lt_zero _)), _, rfl⟩ (fun i σ G _ z => SqL.of ((z.1.std tb) _ _ hl fun ps q => by cases q)) ?_ ?_⟩
      · rintro i x σ G hi ⟨gG, ⟨kvs, hD, kk⟩, nb, v3, rfl⟩
        obtain ⟨z, hz, rfl⟩ := item_str hi
        have il : i < ws.length := (List.getElem?_eq_some_iff.mp hz).1
        have k2 := kk.2
        rw [List.length_take] at k2
        refine ⟨_, rfl, _, rfl, D, _, rfl, DPut.k (k := kS z) hD (by rw [sizeLine_eq]; omega), ?_⟩
        have gG1 := gG.over (o := .dK (putK kvs (kS z) (.bl true))) nD0 hD fun xs q => by cases q
        have hD1 : upd G D (.dK (putK kvs (kS z) (.bl true))) D = some (.dK (putK kvs (kS z) (.bl true))) := upd_same
        have kk1 : KeysOf (putK kvs (kS z) (.bl true)) (ws.take (i + 1)) := by
          rw [List.take_succ, hz]
          exact kk.put z _
        generalize upd G D (.dK (putK kvs (kS z) (.bl true))) = G1 at gG1 hD1
        obtain ⟨z1, z2⟩ := brOf_sz (z := z) (u := Str.empty) ok
        refine ⟨_, rfl, _, rfl, p, z, Str.empty, bd, rfl, hb.std (gG1.std tb), ok, bf, fun c H3 s3 hc => ?_⟩
        have g3 := gG1.same s3
        have hD3 := s3 _ _ hD1
        refine ⟨_, rfl, c, D, _, ws.take (i + 1), rfl, hc, ⟨_, hD3, kk1.1⟩, z1, z2, g3.tb, fun H4 g4 => ?_⟩
        rw [brB_eq bf.f bf.nn]
        have hD4 := (g4.std g3.tb) _ _ hD3 fun ps q => by cases q
        refine ⟨_, rfl, ?_⟩
        cases hbz : barB (ws.take (i + 1)) z bd with
        | true =>
          refine iteT ?_
          refine k false H4 (g3.trans g4) ⟨(fun q => nomatch q), fun q => ?_⟩
          rw [q.2 i z hz] at hbz
          cases hbz
        | false =>
          refine iteF (to_nx ⟨g3.trans g4, ⟨_, hD4, kk1⟩, fun m y h e => ?_, _, rfl⟩)
          rcases Nat.lt_or_eq_of_le (Nat.le_of_lt_succ h) with h | h
          · exact nb m y h e
          · subst h
            rw [hz] at e
            cases Option.some.inj e
            exact hbz
      · rintro σ G ⟨gG, _, nb, v3, rfl⟩
        refine k true G gG ⟨fun _ => ⟨perm.mp es, fun i z e => nb i z (by rw [List.length_map]; exact (List.getElem?_eq_some_iff.mp e).1) e⟩, fun _ => rfl⟩
    · rw [decide_eq_false es]
      refine iteT ?_
      exact k false H2 g2 ⟨(fun q => nomatch q), fun q => absurd (perm.mpr q.1) es⟩
end
end My
/-! orders, newest first -/
namespace My
open PySem PySem.W PySem.Spec PyProof.Rows L2
section
variable {bd : List Tm}
theorem barB_set {A B : List Str} (h : ∀ x, x ∈ A ↔ x ∈ B) (z : Str) : barB A z bd = barB B z bd := by
  have a : barB A z bd = true → barB B z bd = true := mono_bB bd A B z fun x hx => (h x).mp hx
  have b : barB B z bd = true → barB A z bd = true := mono_bB bd B A z fun x hx => (h x).mpr hx
  cases e : barB A z bd with
  | true => rw [a e]
  | false =>
    cases e2 : barB B z bd with
    | false => rfl
    | true =>
      rw [b e2] at e
      cases e
theorem barB_less {A B : List Str} (h : ∀ x ∈ A, x ∈ B) {z : Str} (e : barB B z bd = false) : barB A z bd = false := by
  cases q : barB A z bd with
  | false => rfl
  | true =>
    have : barB B z bd = true := mono_bB bd A B z h q
    rw [e] at this
    cases this
def SeqF (bd : List Tm) : List Str → Prop
  | [] => True
  | z :: r => barB (z :: r) z bd = false ∧ SeqF bd r
theorem SeqF.none : ∀ {cs : List Str}, SeqF bd cs → NoneBars bd cs.reverse
  | [], _ => fun i z e => by simp at e
  | y :: r, h => fun i z e => by
    obtain ⟨h1, h2⟩ := h
    rw [List.reverse_cons] at e ⊢
    by_cases l : i < r.reverse.length
    · rw [List.getElem?_append_left l] at e
      rw [List.take_append_of_le_length (by omega)]
      exact SeqF.none h2 i z e
    · have il := (List.getElem?_eq_some_iff.mp e).1
      rw [List.length_append, List.length_singleton] at il
      have ei : i = r.reverse.length := by omega
      rw [List.getElem?_append_right (by omega), ei, Nat.sub_self] at e
      cases Option.some.inj e
      rw [List.take_of_length_le (by rw [List.length_append, List.length_singleton]; omega), barB_set (B := y :: r) (by intro x; simp [or_comm])]
      exact h1
theorem SeqF.swap : ∀ {A B M : List Str}, SeqF bd (A ++ B) → (∀ x, x ∈ B ↔ x ∈ M) → SeqF bd M → SeqF bd (A ++ M)
  | [], _, _, _, _, h => h
  | z :: A, B, M, h, s, hm => by
    obtain ⟨h1, h2⟩ := h
    refine ⟨?_, SeqF.swap h2 s hm⟩
    rw [barB_set (B := z :: (A ++ B)) (by intro x; simp [s x])]
    exact h1
theorem SeqF.filter (p : Str → Bool) : ∀ {M : List Str}, SeqF bd M → SeqF bd (M.filter p)
  | [], h => h
  | z :: r, h => by
    obtain ⟨h1, h2⟩ := h
    have ih := SeqF.filter p h2
    rw [List.filter_cons]
    split
    · exact ⟨barB_less (fun x hx => by
        rcases List.mem_cons.mp hx with e | e
        · rw [e]; exact List.mem_cons_self
        · exact List.mem_cons_of_mem _ (List.mem_filter.mp e).1) h1, ih⟩
    · exact ih
theorem SeqF.drop : ∀ (n : Nat) {M : List Str}, SeqF bd M → SeqF bd (M.drop n)
  | 0, _, h => h
  | _ + 1, [], h => h
  | n + 1, _ :: r, h => SeqF.drop n h.2
/-- all of them, each as soon as it is free -/
structure Ord (bd : List Tm) (ks cs : List Str) : Prop where
  p : cs.Perm ks
  s : SeqF bd cs
theorem Ord.can {ks cs : List Str} (h : Ord bd ks cs) (kn : Known bd ks) : CanP bd cs.reverse := ⟨⟨ks, kn, (List.reverse_perm cs).trans h.p⟩, h.s.none⟩
theorem Ord.nd {ks cs : List Str} (h : Ord bd ks cs) (kn : Known bd ks) : cs.Nodup := h.p.nodup_iff.mpr kn.nd
theorem Ord.mix {ks F M : List Str} (hF : Ord bd ks F) (hM : Ord bd ks M) (kn : Known bd ks) (c : Nat) : Ord bd ks (F.take c ++ M.filter fun z => decide (z ∉ F.take c)) := by
  have nd := hF.nd kn
  have ndF := nd
  rw [← List.take_append_drop c F] at nd
  have dis := (List.nodup_append.mp nd).2.2
  have mem : ∀ x, x ∈ F.drop c ↔ x ∈ M.filter fun z => decide (z ∉ F.take c) := fun x => by
    have h1 : x ∈ F ↔ x ∈ M := (hF.p.mem_iff).trans (hM.p.mem_iff).symm
    rw [List.mem_filter, ← h1, decide_eq_true_iff]
    constructor
    · intro h
      exact ⟨List.mem_of_mem_drop h, fun q => dis x q x h rfl⟩
    · intro ⟨h, q⟩
      rw [← List.take_append_drop c F] at h
      rcases List.mem_append.mp h with a | a
      · exact absurd a q
      · exact a
  have hs := hF.s
  rw [← List.take_append_drop c F] at hs
  refine ⟨?_, hs.swap mem (hM.s.filter _)⟩
  have p1 : (F.drop c).Perm (M.filter fun z => decide (z ∉ F.take c)) := (List.perm_ext_iff_of_nodup ((List.drop_sublist c F).nodup ndF) ((List.filter_sublist).nodup (hM.nd kn))).mpr mem
  have p2 := (List.Perm.append_left (F.take c) p1).symm
  rw [List.take_append_drop] at p2
  exact p2.trans hF.p
/-- the first free one each time -/
def Grd (bd : List Tm) : List Str → List Str → Prop
  | left, [] => left = []
  | left, z :: r => ∃ j t, left[j]? = some z ∧ frees (bB bd) left = z :: t ∧ Grd bd (left.eraseIdx j) r
theorem Grd.ord : ∀ {L left : List Str}, Grd bd left L → Ord bd left L
  | [], left, h => by
    have h : left = [] := h
    rw [h]
    exact ⟨List.Perm.refl _, trivial⟩
  | z :: r, left, ⟨j, t, ej, ef, g⟩ => by
    have ih := Grd.ord g
    obtain ⟨jl, ez⟩ := List.getElem?_eq_some_iff.mp ej
    have pm : (z :: r).Perm left := by
      have q := pick_perm left j jl
      rw [ez] at q
      exact (ih.p.cons z).trans q
    have zf : z ∈ frees (bB bd) left := by rw [ef]; exact List.mem_cons_self
    have zb := (List.mem_filter.mp zf).2
    refine ⟨pm, ?_, ih.s⟩
    rw [barB_set (B := left) (fun x => pm.mem_iff)]
    have : (!barB left z bd) = true := zb
    cases e : barB left z bd with
    | false => rfl
    | true => rw [e] at this; cases this
theorem alikeS : ∀ xs ys : List Str, alikeAll (xs.map PyData.str) (ys.map PyData.str) = true
  | [], _ => by rw [List.map_nil, alikeAll]
  | x :: xs, [] => by rw [List.map_nil, List.map_cons, alikeAll]
  | x :: xs, y :: ys => by rw [List.map_cons, List.map_cons, alikeAll, alike, alikeS xs ys]; rfl
theorem least_lt : ∀ {L left cs : List Str}, Grd bd left L → Sorted left → left.Nodup → cs.Perm left → SeqF bd cs → PyProof.Rows.lexLt itemOrd (keyToksAll (cs.map PyData.str)) (keyToksAll (L.map PyData.str)) = false
  | [], left, cs, h, _, _, p, _ => by
    have h : left = [] := h
    rw [h] at p
    rw [List.Perm.eq_nil p]
    rfl
  | z :: r, left, cs, ⟨j, t, ej, ef, g⟩, srt, nd, p, s => by
    obtain ⟨jl, ez⟩ := List.getElem?_eq_some_iff.mp ej
    cases cs with
    | nil =>
      have := p.length_eq
      rw [List.length_nil] at this
      omega
    | cons y c =>
      obtain ⟨s1, s2⟩ := s
      have yb : barB left y bd = false := by
        rw [← barB_set (A := y :: c) (fun x => p.mem_iff)]
        exact s1
      have ym : y ∈ left := p.mem_iff.mp List.mem_cons_self
      have yf : y ∈ frees (bB bd) left := List.mem_filter.mpr ⟨ym, by show (!barB left y bd) = true; rw [yb]; rfl⟩
      have q := pick_perm left j jl
      rw [ez] at q
      by_cases e : y = z
      · subst e
        rw [List.map_cons, List.map_cons, dataLt_all_yes (by rw [alike]) (by rw [PyData.eqv]; simp)]
        exact least_lt g (List.Pairwise.sublist (List.eraseIdx_sublist _ _) srt) ((List.eraseIdx_sublist _ _).nodup nd) ((p.trans q.symm).cons_inv) s2
      · rw [List.map_cons, List.map_cons, dataLt_all_no (by rw [alike]) (by rw [PyData.eqv]; simp [e]), dataLt_str]
        have sf : Sorted (frees (bB bd) left) := List.Pairwise.sublist List.filter_sublist srt
        rw [ef] at sf yf
        rcases List.mem_cons.mp yf with a | a
        · exact absurd a e
        · exact decide_eq_false ((List.pairwise_cons.mp sf).1 y a)
theorem not_gt {ks cs L : List Str} (g : Grd bd ks L) (kn : Known bd ks) (o : Ord bd ks cs) : dataLt (dStrs cs) (dStrs L) = false := by
  unfold dataLt dStrs
  rw [keyToks, keyToks]
  first
    | exact least_lt g kn.srt kn.nd o.p o.s
    | (have q := least_lt g kn.srt kn.nd o.p o.s
       simpa using q)
theorem grd_ex : ∀ (n : Nat) {left : List Str}, left.length = n → (∀ S : List Str, S ≠ [] → (∀ z ∈ S, z ∈ left) → frees (bB bd) S ≠ []) → ∃ L, Grd bd left L
  | 0, left, e, _ => ⟨[], List.length_eq_zero_iff.mp e⟩
  | n + 1, left, e, go => by
    have ne : left ≠ [] := fun h => by rw [h] at e; cases e
    cases hf : frees (bB bd) left with
    | nil => exact absurd hf (go left ne fun z h => h)
    | cons z t =>
      have zm : z ∈ left := (List.mem_filter.mp (show z ∈ frees (bB bd) left by rw [hf]; exact List.mem_cons_self)).1
      obtain ⟨j, ej⟩ := List.mem_iff_getElem?.mp zm
      have jl := (List.getElem?_eq_some_iff.mp ej).1
      obtain ⟨L, g⟩ := grd_ex n (left := left.eraseIdx j) (by rw [List.length_eraseIdx, if_pos jl, e]; rfl) fun S ne sub => go S ne fun z h => List.mem_of_mem_eraseIdx (sub z h)
      exact ⟨z :: L, j, t, ej, hf, g⟩
end
end My
namespace My
open PySem PySem.Spec PyProof.Rows L2
open GxR (TabB TabG Tabbed)
def spNeed (C : Cd) : Sp := fun vs H Q _ => ∃ (a : Addr) (bd : List Tm), vs = [.ref a] ∧ BdAt H a bd ∧ BdOk bd ∧ BdF bd ∧ LvB bd ∧ Tbs C.tabs H ∧ ∀ H' : Hp, Gr C.tabs H H' → Q .non H'
def Goes (bd : List Tm) (ks : List Str) : Prop := ∀ S : List Str, S ≠ [] → (∀ z ∈ S, z ∈ ks) → frees (bB bd) S ≠ []
theorem goes_of {bd : List Tm} {ks : List Str} (lv : LvB bd) (kn : Known bd ks) : Goes bd ks := fun S ne sub e => by
  obtain ⟨z, hz, q⟩ := lived_free lv ne fun z m => by
    obtain ⟨t, ht, q⟩ := List.mem_flatMap.mp ((kn.mem z).mp (sub z m))
    obtain ⟨k, hk, q⟩ := List.mem_flatMap.mp q
    exact ⟨t, ht, k, hk, q⟩
  have := frees_nil.mp e z hz
  rw [show bB bd S z = barB S z bd from rfl, q] at this
  cases this
def spNew (C : Cd) : Sp := fun vs H Q _ => ∃ (b l : Addr) (bd : List Tm) (us ws : List Str), vs = [.ref b, .ref l] ∧ BarsIn H b us bd ∧ BdOk bd ∧ BdF bd ∧ H l = some (.lst (ws.map V.str)) ∧ (∀ z ∈ ws, z ∈ us) ∧ ws.length ≤ 1000 ∧ Goes bd ws ∧ ws.Nodup ∧ Tbs C.tabs H ∧
  ∀ (q : Addr) (cs : List Str) (H' : Hp), H q = none → H' q = some (.lst (cs.map V.str)) → Grd bd ws cs → Gr C.tabs H H' → Q (.ref q) H'
def spOrd (C : Cd) : Sp := fun vs H Q _ => ∃ (a : Addr) (bd : List Tm), vs = [.ref a] ∧ BdAt H a bd ∧ BdOk bd ∧ BdF bd ∧ LvB bd ∧ Tbs C.tabs H ∧
  ∀ (q : Addr) (ks cs : List Str) (H' : Hp), H q = none → H' q = some (.lst (cs.reverse.map V.str)) → Known bd ks → Grd bd ks cs → ks.length ≤ 288 → W8 ks → Gr C.tabs H H' → Q (.ref q) H'
section
variable {P : Program} {w : World} {K : PySem.W.Frag} {mg : Str → Option Value} {base : Heap} {A : Ad} {C : Cd}
theorem ok_need_order (T : Txt K mg A) (TB : TBs base mg C A) : FnOk P w K mg base CX0 5 A.f_need_order A.d_need_order P_need_order (spNeed C) := by
  refine T.F_need_order.ok sc_need_order (fun vs H Q E h => ?_) (fun cdv A' outer s H vs Q E hr h => ?_)
  · obtain ⟨a, bd, rfl, _⟩ := h
    rfl
  · obtain ⟨a, bd, rfl, hb, ok, bf, lv, tb, k⟩ := h
    refine ⟨_, (pss_cons (ps_set (i := 1) sc_need_order.nd rfl (Or.inl rfl) (pe_call (ok_stuck T TB) (hr.mono (by decide)) rfl T.g_stuck T.F_stuck.kp T.b_stuck .nil pass0 (pa_cons (pv 0) pa_nil)))
    (pss_one (ps_if (pt_truth (pv 1) (by intro _; rfl))
      (pss_one ps_dead)
      pss_nil))), ?_⟩
    refine ⟨_, rfl, a, bd, rfl, hb, ok, bf, tb, fun r ks gs H2 nr hr kn gr _ _ g2 => ?_⟩
    obtain rfl := lived_none lv gr fun z hz => by
      obtain ⟨t, ht, q⟩ := List.mem_flatMap.mp ((kn.mem z).mp hz)
      obtain ⟨k, hk, q⟩ := List.mem_flatMap.mp q
      exact ⟨t, ht, k, hk, q⟩
    refine ⟨_, rfl, _, .inl ⟨_, SqL.of hr, rfl⟩, ?_⟩
    exact iteF (to_nx (k H2 g2))
theorem ok_newest_first (T : Txt K mg A) (TB : TBs base mg C A) : FnOk P w K mg base CX0 4 A.f_newest_first A.d_newest_first P_newest_first (spNew C) := by
  refine T.F_newest_first.ok sc_newest_first (fun vs H Q E h => ?_) (fun cdv A' outer s H vs Q E hr h => ?_)
  · obtain ⟨b, l, bd, us, ws, rfl, _⟩ := h
    rfl
  · obtain ⟨b, l, bd, us, ws, rfl, hb, ok, bf, hl, sub, l1000, go, nd, tb, k⟩ := h
    refine ⟨_, (pss_cons (ps_set (i := 2) sc_newest_first.nd rfl (Or.inl rfl) (pe_lst pa_nil))
    (pss_cons (ps_set (i := 3) sc_newest_first.nd rfl (Or.inl rfl) (pe_callTy (list_ofK (K := K) rfl) (by rfl) T.n_list (by decide +kernel) (pa_cons (pv 1) pa_nil)))
    (pss_cons (ps_while PassesOwn.never (pt_truth (pv 3) (by intro _; rfl))
      (pss_cons (ps_set (i := 4) sc_newest_first.nd rfl (Or.inl rfl) (pe_ix (ix_listK (K := K) rfl) (pe_call (ok_free_of T TB) (hr.mono (by decide)) rfl T.g_free_of T.F_free_of.kp T.b_free_of .nil pass0 (pa_cons (pv 0) (pa_cons (pv 3) (pa_cons (pe_lst pa_nil) pa_nil)))) pe_int (fun _ _ => rfl)))
      (pss_cons (ps_expr (pe_K (K := K) rfl (pe_bm PySem.F.plainAttrs_list PySem.F.slot_list_append PySem.F.type_list_append mt_append (by exact (pv 2)) (by exact (pa_cons (pv 4) pa_nil)))))
      (pss_one (ps_expr (pe_K (K := K) rfl (pe_bm PySem.F.plainAttrs_list PySem.F.slot_list_remove PySem.F.type_list_remove mt_removeS (by exact (pv 3)) (by exact (pa_cons (pv 4) pa_nil)))))))))
    (pss_one (ps_ret (pv 2)))))), ?_⟩
    refine ⟨(show 0 ≤ sizeLine by decide), fun t nt => ?_⟩
    have s1 := same_new (o := .lst []) nt
    refine ⟨_, rfl, l, _, rfl, .inl (SqL.of (s1 _ _ hl)), fun x nx => ?_⟩
    have s2 := s1.trans (same_new (o := .lst (ws.map V.str)) nx)
    have ht0 : upd H t (.lst []) t = some (.lst []) := upd_same
    have tx : t ≠ x := ne_of_none ht0 nx
    have nx0 : H x = none := free_of s1 nx
    have g2 := (Gr.refl tb).same s2
    have ht2 := (upd_ne (H := upd H t (.lst [])) (o := .lst (ws.map V.str)) tx).trans ht0
    have hx2 : upd (upd H t (.lst [])) x (.lst (ws.map V.str)) x = _ := upd_same
    refine gn_nx (sq_of (while_ix (ws.length + 1) (fun i σ G => Gr C.tabs H G ∧ ∃ (ts left : List Str) (v4 : Option V), σ = [some (.ref b), some (.ref l), some (.ref t), some (.ref x), v4] ∧ G t = some (.lst (ts.map V.str)) ∧ G x = some (.lst (left.map V.str)) ∧ left.Sublist ws ∧ left.length + i = ws.length ∧ ts.length = i ∧ ∀ cs, Grd bd left cs → Grd bd ws (ts ++ cs))
      ⟨g2, [], ws, none, rfl, ht2, hx2, List.Sublist.refl _, rfl, rfl, fun cs h => h⟩ ?_ ?_))
    · rintro i σ G ⟨gG, ts, left, v4, rfl, ht, hx, sl, len, tl, key⟩
      refine ⟨_, rfl, _, .inl ⟨_, SqL.of hx, rfl⟩, ?_⟩
      have nt0 : H t = none := nt
      cases hlf : left with
      | nil =>
        refine iteF ?_
        refine ⟨_, rfl, ?_⟩
        have q := key [] hlf
        rw [List.append_nil] at q
        exact k t ts G nt ht q gG
      | cons y0 ys0 =>
        refine iteT ⟨by omega, ?_⟩
        have ne : left ≠ [] := by rw [hlf]; simp
        refine ⟨_, rfl, _, rfl, (show 0 ≤ sizeLine by decide), fun e nE => ?_⟩
        have se := same_new (o := .lst []) nE
        have ge := gG.same se
        refine ⟨b, x, e, bd, us, left, [], rfl, hb.std (ge.std tb), ok, bf, se _ _ hx, upd_same, fun z hz => sub z (sl.subset hz), by omega, by decide, ge.tb, fun p G1 np hp g1 => ?_⟩
        rw [List.append_nil] at hp
        have hp : G1 p = some (.lst ((frees (bB bd) left).map V.str)) := hp
        have st1 : ∀ {c : Addr} {o : HO}, G c = some o → (∀ ps, o ≠ .tbl ps) → G1 c = some o := fun h n => g1.std ge.tb _ _ (se _ _ h) n
        have ht1 := st1 ht fun ps q => by cases q
        have hx1 := st1 hx fun ps q => by cases q
        have gG1 := ge.trans g1
        cases hf : frees (bB bd) left with
        | nil => exact absurd hf (go left ne fun z hz => sl.subset hz)
        | cons z fs =>
          rw [hf] at hp
          have zm : z ∈ left := frees_sub z (by rw [hf]; exact List.mem_cons_self)
          obtain ⟨j, ej⟩ := List.mem_iff_getElem?.mp zm
          have lnd := sl.nodup nd
          refine ⟨p, _, _, _, rfl, rfl, SqL.of hp, atI_nat (j := 0) (v := V.str z) rfl, ?_⟩
          refine ⟨_, rfl, .inl ⟨rfl, _, SqL.of ht1⟩, _, rfl, t, _, _, rfl, rfl, ht1, by rw [List.length_map, sizeLine_eq]; omega, ?_⟩
          have hx2 := (upd_ne (H := G1) (o := .lst (ts.map V.str ++ [.str z])) tx.symm).trans hx1
          have gG2 := gG1.over nt ht1 (o := .lst (ts.map V.str ++ [.str z])) fun xs q => by cases q
          refine ⟨_, rfl, .inl ⟨rfl, _, SqL.of hx2⟩, _, rfl, x, left, z, j, rfl, rfl, hx2, ej, fun m mj em => ?_, ?_⟩
          · have ml := (List.getElem?_eq_some_iff.mp em).1
            have := (List.getElem?_inj ml lnd).mp (em.trans ej.symm)
            omega
          · have jl := (List.getElem?_eq_some_iff.mp ej).1
            refine ⟨gG2.over nx0 hx2 (fun xs q => by cases q), ts ++ [z], left.eraseIdx j, _, rfl, ?_, upd_same, (List.eraseIdx_sublist _ _).trans sl, ?_, by rw [List.length_append, tl]; rfl, fun cs hc => ?_⟩
            · rw [upd_ne tx, upd_same, List.map_append]
              rfl
            · rw [List.length_eraseIdx, if_pos jl]
              omega
            · rw [List.append_assoc]
              exact key (z :: cs) ⟨j, fs, ej, hf, hc⟩
    · intro σ H Q Q' f h
      obtain ⟨v, e, k, a, b⟩ := h
      exact ⟨v, e, k, a, f _ _ b⟩
theorem ok_order_of (T : Txt K mg A) (TB : TBs base mg C A) : FnOk P w K mg base CX0 6 A.f_order_of A.d_order_of P_order_of (spOrd C) := by
  refine T.F_order_of.ok sc_order_of (fun vs H Q E h => ?_) (fun cdv A' outer s H vs Q E hr h => ?_)
  · obtain ⟨a, bd, rfl, _⟩ := h
    rfl
  · obtain ⟨a, bd, rfl, hb, ok, bf, lv, tb, k⟩ := h
    refine ⟨_, (pss_cons (ps_expr (pe_call (ok_need_order T TB) (hr.mono (by decide)) rfl T.g_need_order T.F_need_order.kp T.b_need_order .nil pass0 (pa_cons (pv 0) pa_nil)))
    (pss_cons (ps_set (i := 1) sc_order_of.nd rfl (Or.inl rfl) (pe_call (ok_p_things T) (hr.mono (by decide)) rfl T.g_p_things T.F_p_things.kp T.b_p_things .nil pass0 (pa_cons (pv 0) pa_nil)))
    (pss_one (ps_ret (pe_rev (pe_call (ok_newest_first T TB) (hr.mono (by decide)) rfl T.g_newest_first T.F_newest_first.kp T.b_newest_first .nil pass0 (pa_cons (pe_call (ok_bars_of T) (hr.mono (by decide)) rfl T.g_bars_of T.F_bars_of.kp T.b_bars_of .nil pass0 (pa_cons (pv 0) (pa_cons (pv 1) pa_nil))) (pa_cons (pv 1) pa_nil))) (po_some (pe_un un_neg pe_int))))))), ?_⟩
    refine ⟨_, rfl, a, bd, rfl, hb, ok, bf, lv, tb, fun H1 g1 => ?_⟩
    have hb1 := hb.std (g1.std tb)
    refine ⟨_, rfl, a, bd, rfl, hb1, ok, fun p ks H2 np hp kn kl w8 s2 => ?_⟩
    have g2 := g1.same s2
    refine ⟨_, rfl, _, rfl, a, p, bd, ks, rfl, hb1.same s2, ok, bf, hp, by omega, fun b H3 nb s3 hbs => ?_⟩
    have g3 := g2.same s3
    refine ⟨_, rfl, b, p, bd, ks, ks, rfl, hbs, ok, bf, s3 _ _ hp, fun z hz => hz, by omega, goes_of lv kn, kn.nd, g3.tb, fun q cs H4 nq hq gr g4 => ?_⟩
    refine ⟨_, rfl, _, rfl, rfl, q, _, rfl, SqL.of hq, fun l nl => ?_⟩
    rw [← List.map_reverse]
    have gE := (g3.trans g4).same (same_new (o := .lst (cs.reverse.map V.str)) nl)
    refine k l ks cs _ ?_ upd_same kn gr kl w8 gE
    cases hl : H l with
    | none => rfl
    | some o =>
      exfalso
      by_cases m : l ∈ C.tabs
      · obtain ⟨xs, y, _⟩ := (g3.trans g4).tb l m
        rw [nl] at y
        cases y
      · have := (g3.trans g4).keep l o m hl
        rw [nl] at this
        cases this
end
end My
namespace My
open PySem PySem.Spec PyProof.Rows L2
open GxR (TabB TabG Tabbed)
def spCho (C : Cd) : Sp := fun vs H Q _ => ∃ (Hk : Hp) (j p l : Addr) (bd : List Tm) (pre : List Str) (n : Nat), vs = [.ref j, .ref p, .ref l] ∧ Ph C Hk H j n ∧ n + 300 ≤ 1000000000 ∧ BdAt (Of1 j H) p bd ∧ BdOk bd ∧ BdF bd ∧ LvB bd ∧ H l = some (.lst (pre.map V.str)) ∧ (∀ ks, Known bd ks → ∃ tail, Ord bd ks (pre ++ tail)) ∧
  ∀ (q : Addr) (ks cs : List Str) (H' : Hp), H q = none → q ≠ j → H' q = some (.lst (cs.map V.str)) → Known bd ks → W8 ks → ks.length ≤ 288 → Ord bd ks cs → Ph C Hk H' j (n + 300) → Sj j H H' → Q (.ref q) H'
section
variable {P : Program} {w : World} {K : PySem.W.Frag} {mg : Str → Option Value} {base : Heap} {A : Ad} {C : Cd}
theorem ok_chosen (T : Txt K mg A) (TB : TBs base mg C A) : FnOk P w K mg base CX0 6 A.f_chosen A.d_chosen P_chosen (spCho C) := by
  refine T.F_chosen.ok sc_chosen (fun vs H Q E h => ?_) (fun cdv A' outer s H vs Q E hr h => ?_)
  · obtain ⟨Hk, j, p, l, bd, pre, n, rfl, _⟩ := h
    rfl
  · obtain ⟨Hk, j, p, l, bd, pre, n, rfl, ph, n9, hb, ok, bf, lv, hl, hop, k⟩ := h
    refine ⟨_, (pss_cons (ps_set (i := 3) sc_chosen.nd rfl (Or.inr rfl) (pe_callTy (list_ofK (K := K) rfl) (by rfl) T.n_list (by decide +kernel) (pa_cons (pv 2) pa_nil)))
    (pss_cons (ps_set (i := 4) sc_chosen.nd rfl (Or.inr rfl) (pe_lc (own := [("bead", 6)]) (g := (gName 6)) rfl sc_chosen.nd (pi_listK (K := K) rfl (pe_call (ok_things T) (hr.mono (by decide)) rfl T.g_things T.F_things.kp T.b_things .nil pass0 (pa_cons (pv 1) pa_nil))) (blkOk_by (own := [("bead", 6)]) (N := N_chosen) (sc := defScope s_chosen) (by decide +kernel)) (fun _ _ _ _ _ => (pg_name (i := 6) sc_chosen.nd rfl (Or.inl rfl))) (fun _ _ _ _ _ => pts_one (pt_cmpR (notIn_seqK (K := K) rfl) (pv 6) (pv 3) (by rfl))) (fun _ _ _ _ _ => by exact (pv 6))))
    (pss_cons (ps_while PassesOwn.never (pt_cmpR (neDK (K := K) rfl hr.units) (pv 4) (pe_lst pa_nil) (nomark _))
      (pss_cons (ps_setLc (i := 5) (own := [("bead", 6)]) (g := (gName 6)) rfl sc_chosen.nd rfl rfl (sw_true rfl rfl rfl (by decide +kernel)) (pi_listK (K := K) rfl (pv 4)) (blkOk_by (own := [("bead", 6)]) (N := N_chosen) (sc := defScope s_chosen) (by decide +kernel)) (fun _ _ _ _ _ => (pg_name (i := 6) sc_chosen.nd rfl (Or.inl rfl))) (fun _ _ _ _ _ => pts_one (pt_not (pt_val (pe_call (ok_barred T TB) (hr.mono (by decide)) rfl T.g_barred T.F_barred.kp T.b_barred .nil pass0 (pa_cons (pv 1) (pa_cons (pv 4) (pa_cons (pv 6) pa_nil))))))) (fun _ _ _ _ _ => by exact (pv 6)))
      (pss_cons (ps_if (pt_cmpR (eqDK (K := K) rfl hr.units) (pv 5) (pe_lst pa_nil) (nomark _))
        (pss_one (ps_ret pe_non))
        pss_nil)
      (pss_cons (ps_expr (pe_K (K := K) rfl (pe_bm PySem.F.plainAttrs_list PySem.F.slot_list_append PySem.F.type_list_append mt_append (by exact (pv 3)) (by exact (pa_cons (pe_ix (ix_listK (K := K) rfl) (pv 5) (pe_call (ok_dip T) (hr.mono (by decide)) rfl T.g_dip T.F_dip.kp T.b_dip .nil pass0 (pa_cons (pv 0) (pa_cons (pe_callB (len_seqK (K := K) rfl) (by rfl) T.n_len PySem.boot_len (pa_cons (pv 5) pa_nil)) pa_nil))) (fun _ _ => rfl)) pa_nil)))))
      (pss_one (ps_set (i := 4) sc_chosen.nd rfl (Or.inr rfl) (pe_lc (own := [("bead", 6)]) (g := (gName 6)) rfl sc_chosen.nd (pi_listK (K := K) rfl (pv 4)) (blkOk_by (own := [("bead", 6)]) (N := N_chosen) (sc := defScope s_chosen) (by decide +kernel)) (fun _ _ _ _ _ => (pg_name (i := 6) sc_chosen.nd rfl (Or.inl rfl))) (fun _ _ _ _ _ => pts_one (pt_cmpR op_ne (pv 6) (pe_ix (ix_listK (K := K) rfl) (pv 3) (pe_un un_neg pe_int) (fun _ _ => rfl)) (nomark _))) (fun _ _ _ _ _ => by exact (pv 6)))))))))
    (pss_one (ps_ret (pv 3)))))), ?_⟩
    have at1 : ∀ {G : Hp}, Sj j H G → BdAt G p bd := fun s => hb.std (Sj.of1 s)
    refine ⟨_, rfl, l, _, rfl, .inl (SqL.of hl), fun f nf => ?_⟩
    have s1 := same_new (o := .lst (pre.map V.str)) nf
    have Nf := ph.fresh nf
    have fj := ph.jg.ne nf
    have hf1 : upd H f (.lst (pre.map V.str)) f = some (.lst (pre.map V.str)) := upd_same
    have ph1 := ph.same s1
    have sj1 := Sj.same (j := j) s1
    refine ⟨_, rfl, p, bd, rfl, at1 sj1, ok, fun kp ks H2 nkp hkp kl w8 nd' mem' srt' s2 => ?_⟩
    have kn : Known bd ks := ⟨nd', mem', srt'⟩
    obtain ⟨tail, op⟩ := hop ks kn
    have lk := op.p.length_eq
    rw [List.length_append] at lk
    have ph2 := ph1.same s2
    have sj2 := sj1.trans (Sj.same s2)
    have hf2 := s2 _ _ hf1
    refine ⟨kp, rfl, ⟨_, SqL.of hkp⟩, fun D nD => ?_⟩
    refine lc_fil (K := K) (us := ks) (fun z => decide (z ∉ pre)) (Same H2) (fun z => rfl) (fun z => rfl) (by omega) (same_new nD) (fun F s => SqL.of (s _ _ hkp)) (fun F acc y s h => same_over s nD) (fun i2 z F acc N hz sF hD n => ?_) (fun F sF hD => ?_)
    · refine ⟨_, rfl, _, rfl, f, _, rfl, .inl (SqL.of (sF _ _ hf2)), rfl, flat_strs _, _, rfl, ?_⟩
      rw [inV_strs]
      have q := n _ sF hD
      rw [decide_not] at q
      exact q
    have hD : F D = some (.lst ((ks.filter fun z => decide (z ∉ pre)).map V.str)) := hD
    have ph3 := ph2.same sF
    have sj3 := sj2.trans (Sj.same sF)
    have hf3 := sF _ _ hf2
    have fD : f ≠ D := ne_of_none hf2 nD
    have ond := op.nd kn
    have dis := (List.nodup_append.mp ond).2.2
    have mem0 : ∀ x, x ∈ tail ↔ x ∈ ks.filter fun z => decide (z ∉ pre) := fun x => by
      rw [List.mem_filter, ← op.p.mem_iff, List.mem_append, decide_eq_true_iff]
      exact ⟨fun h => ⟨.inr h, fun q => dis x q x h rfl⟩, fun h => h.1.resolve_left h.2⟩
    have rnd : (ks.filter fun z => decide (z ∉ pre)).Nodup := List.filter_sublist.nodup kn.nd
    have key0 : ∀ M, SeqF bd M → M.Perm (ks.filter fun z => decide (z ∉ pre)) → Ord bd ks (pre ++ M) := fun M sM pM => by
      refine ⟨?_, op.s.swap (fun x => (mem0 x).trans pM.mem_iff.symm) sM⟩
      have pt : tail.Perm (ks.filter fun z => decide (z ∉ pre)) := (List.perm_ext_iff_of_nodup (List.nodup_append.mp ond).2.1 rnd).mpr mem0
      exact (List.Perm.append_left pre (pM.trans pt.symm)).trans op.p
    have rl := List.length_filter_le (fun z => decide (z ∉ pre)) ks
    refine gn_nx (sq_of (while_ix (ks.length + 1) (fun i σ G => Ph C Hk G j (n + i) ∧ Sj j H G ∧ ∃ (x : Addr) (fs rs : List Str) (v5 v6 : Option V), σ = [some (.ref j), some (.ref p), some (.ref l), some (.ref f), some (.ref x), v5, v6] ∧ x ≠ j ∧ x ≠ f ∧
        G f = some (.lst (fs.map V.str)) ∧ G x = some (.lst (rs.map V.str)) ∧ (∀ z ∈ rs, z ∈ ks) ∧ rs.Nodup ∧ rs.length + i ≤ ks.length ∧ fs.length ≤ pre.length + i ∧ i ≤ ks.length ∧ ∀ M, SeqF bd M → M.Perm rs → Ord bd ks (fs ++ M))
      ⟨ph3, sj3, D, pre, _, none, none, rfl, ph2.jg.ne nD, fD.symm, hf3, hD, fun z h => (List.mem_filter.mp h).1, rnd, rl, Nat.le_refl _, Nat.zero_le _, key0⟩ ?_ ?_))
    · rintro i σ G ⟨phG, sjG, x, fs, rs, v5, v6, rfl, xj, xf, hf, hx, sub, nd, len, fl, il, key⟩
      have w8r : W8 rs := fun z hz => w8 z (sub z hz)
      have n2 := rs.length
      refine ⟨_, rfl, (show 0 ≤ sizeLine by decide), fun e ne0 => ?_⟩
      have se := same_new (o := .lst []) ne0
      refine ⟨dStrs rs, .list [], .lst (SqL.of (se _ _ hx)) (dp_strs _), .lst (SqL.of upd_same) .nil, shaped_strs w8r, shaped_strs w8_nil, _, rfl, ?_⟩
      unfold dStrs
      rw [eqv_nil]
      have phe := phG.same se
      have sje := sjG.trans (Sj.same se)
      have hfe := se _ _ hf
      have hxe := se _ _ hx
      generalize upd G e (.lst []) = Ge at phe sje hfe hxe
      cases hrs : rs with
      | nil =>
        refine iteF ?_
        have o := key [] trivial (by rw [hrs])
        rw [List.append_nil] at o
        exact ⟨_, rfl, k f ks fs Ge nf fj hfe kn w8 kl o (phe.more (by omega)) sje⟩
      | cons y0 ys0 =>
        have rne : rs ≠ [] := by rw [hrs]; simp
        have l1 : 1 ≤ rs.length := by rw [hrs]; exact Nat.succ_le_succ (Nat.zero_le _)
        refine iteT ⟨by omega, ?_⟩
        -- the free ones
        refine ⟨_, rfl, x, rfl, ⟨_, SqL.of hxe⟩, fun D2 nD2 => ?_⟩
        have gD2 := (Gr.refl phe.g.tb).same (same_new (o := .lst []) nD2)
        refine lc_fil (K := K) (us := rs) (fun z => !barB rs z bd) (Gr C.tabs Ge) (fun z => rfl) (fun z => rfl) (by omega) gD2 (fun F2 s => sqL_std (s.std phe.g.tb) (SqL.of hxe)) (fun F2 acc y s h => s.over nD2 h fun ps z => by cases z) (fun i2 z F2 acc N hz sF2 hD2 n => ?_) (fun F2 sF2 hD2 => ?_)
        · have gF2 := sF2
          refine ⟨_, rfl, _, rfl, _, rfl, p, x, bd, rs, z, rfl, at1 (sje.trans (Sj.std (sF2.std phe.g.tb))), ok, bf, sF2.std phe.g.tb _ _ hxe (fun ps z => by cases z), sF2.tb, fun F3 g3 => ⟨_, rfl, n _ (sF2.trans g3) (g3.std sF2.tb _ _ hD2 fun ps z => by cases z)⟩⟩
        have hD2 : F2 D2 = some (.lst ((frees (bB bd) rs).map V.str)) := hD2
        have st2 := sF2.std phe.g.tb
        have ph5 := phe.gr sF2
        have sj5 := sje.trans (Sj.std st2)
        have hf5 := st2 _ _ hfe fun ps z => by cases z
        have hx5 := st2 _ _ hxe fun ps z => by cases z
        have fne := goes_of lv kn rs rne sub
        have fl1 : (frees (bB bd) rs).length ≤ rs.length := List.length_filter_le _ _
        have D2j := phe.jg.ne nD2
        have D2f : f ≠ D2 := ne_of_none hfe nD2
        -- none is None
        refine ⟨_, rfl, (show 0 ≤ sizeLine by decide), fun e2 ne2 => ?_⟩
        have s6 := same_new (o := .lst []) ne2
        refine ⟨dStrs (frees (bB bd) rs), .list [], .lst (SqL.of (s6 _ _ hD2)) (dp_strs _), .lst (SqL.of upd_same) .nil, shaped_strs (fun z hz => w8r z (frees_sub z hz)), shaped_strs w8_nil, _, rfl, ?_⟩
        unfold dStrs
        rw [eqv_nil, show ((frees (bB bd) rs).map PyData.str).isEmpty = false by
          cases h : frees (bB bd) rs with
          | nil => exact absurd h fne
          | cons _ _ => rfl]
        refine iteF (to_nx ?_)
        have ph6 := ph5.same s6
        have sj6 := sj5.trans (Sj.same s6)
        have hf6 := s6 _ _ hf5
        have hx6 := s6 _ _ hx5
        have hD6 := s6 _ _ hD2
        generalize upd F2 e2 (.lst []) = F6 at ph6 sj6 hf6 hx6 hD6
        -- one of them
        have fpos : 1 ≤ (frees (bB bd) rs).length := by
          cases h : frees (bB bd) rs with
          | nil => exact absurd h fne
          | cons _ _ => exact Nat.succ_le_succ (Nat.zero_le _)
        refine ⟨_, rfl, .inl ⟨rfl, _, SqL.of hf6⟩, _, rfl, _, rfl, _, rfl, D2, _, rfl, .inl (SqL.of hD6), j, _, n + i, rfl, ph6.jg, by omega, by rw [List.length_map]; omega, by rw [List.length_map]; omega, fun d G7 d0 d1 j7 x7 => ?_⟩
        rw [List.length_map] at d1
        obtain ⟨dn, rfl⟩ := Int.eq_ofNat_of_zero_le d0
        have dl : dn < (frees (bB bd) rs).length := by omega
        have ey : (frees (bB bd) rs)[dn]? = some (frees (bB bd) rs)[dn] := List.getElem?_eq_getElem dl
        have ym := List.getElem_mem dl
        generalize (frees (bB bd) rs)[dn] = y at ey ym
        have yr := frees_sub y ym
        have yb : barB rs y bd = false := by
          have : (!barB rs y bd) = true := (List.mem_filter.mp ym).2
          cases h : barB rs y bd with
          | false => rfl
          | true => rw [h] at this; cases this
        have ph7 := ph6.dip j7 x7
        have sj7 := sj6.trans (Sj.ex x7)
        have hf7 := x7 _ _ fj hf6
        have hx7 := x7 _ _ xj hx6
        refine ⟨D2, _, _, _, rfl, rfl, SqL.of (x7 _ _ D2j hD6), atI_nat (map_at ey), f, _, _, rfl, rfl, hf7, by rw [List.length_map, sizeLine_eq]; omega, ?_⟩
        have em : fs.map V.str ++ [V.str y] = (fs ++ [y]).map V.str := by rw [List.map_append]; rfl
        rw [em]
        have ph8 := ph7.over (o := .lst ((fs ++ [y]).map V.str)) Nf hf7 fun xs z => by cases z
        have hf8 : upd G7 f (.lst ((fs ++ [y]).map V.str)) f = some (.lst ((fs ++ [y]).map V.str)) := upd_same
        have hx8 := (upd_ne (H := G7) (o := .lst ((fs ++ [y]).map V.str)) xf).trans hx7
        have sj8 : Sj j H (upd G7 f (.lst ((fs ++ [y]).map V.str))) := fun c o nc hc nt => (upd_ne (show c ≠ f from ne_of_none hc nf)).trans (sj7 c o nc hc nt)
        generalize upd G7 f (.lst ((fs ++ [y]).map V.str)) = G8 at ph8 hf8 hx8 sj8
        -- the rest
        refine ⟨_, rfl, x, rfl, ⟨_, SqL.of hx8⟩, fun D3 nD3 => ?_⟩
        refine lc_fil (K := K) (us := rs) (fun z => !decide (V.str z = V.str y)) (Same G8) (fun z => rfl) (fun z => rfl) (by omega) (same_new nD3) (fun F s => SqL.of (s _ _ hx8)) (fun F acc y s h => same_over s nD3) (fun i2 z F acc N hz sF hD n => ?_) (fun F sF hD3 => ?_)
        · refine ⟨_, rfl, _, rfl, _, rfl, f, _, _, _, rfl, rfl, SqL.of (sF _ _ hf8), by rw [← em]; exact atI_last _ _, rfl, _, rfl, ?_⟩
          exact n _ sF hD
        have hD3 : F D3 = some (.lst ((rs.filter fun z => !decide (V.str z = V.str y)).map V.str)) := hD3
        have memr : ∀ z, z ∈ (rs.filter fun z => !decide (V.str z = V.str y)) ↔ z ∈ rs ∧ z ≠ y := fun z => by
          rw [List.mem_filter]
          simp
        have nd3 : (rs.filter fun z => !decide (V.str z = V.str y)).Nodup := List.filter_sublist.nodup nd
        have pm3 : (y :: rs.filter fun z => !decide (V.str z = V.str y)).Perm rs := by
          refine (List.perm_ext_iff_of_nodup (List.nodup_cons.mpr ⟨fun h => ((memr y).mp h).2 rfl, nd3⟩) nd).mpr fun z => ?_
          rw [List.mem_cons, memr]
          constructor
          · intro h
            rcases h with h | h
            · rw [h]; exact yr
            · exact h.1
          · intro h
            by_cases e : z = y
            · exact .inl e
            · exact .inr ⟨h, e⟩
        have len3 := pm3.length_eq
        rw [List.length_cons] at len3
        refine ⟨(ph8.same sF).more (by omega), sj8.trans (Sj.same sF), D3, fs ++ [y], _, _, _, rfl, ph8.jg.ne nD3, (ne_of_none hf8 nD3).symm, sF _ _ hf8, hD3, fun z h => sub z ((memr z).mp h).1, nd3, by omega, by rw [List.length_append, List.length_singleton]; omega, by omega, fun M sM pM => ?_⟩
        rw [List.append_assoc]
        have pyM : (y :: M).Perm rs := (pM.cons y).trans pm3
        refine key (y :: M) ⟨?_, sM⟩ pyM
        rw [barB_set (B := rs) (fun x => pyM.mem_iff)]
        exact yb
    · intro σ H Q Q' f h
      obtain ⟨v, e, l, k⟩ := h
      refine ⟨v, e, l, fun p np => ?_⟩
      obtain ⟨d, d2, x1, x2, y1, y2, kk, ek, q⟩ := k p np
      exact ⟨d, d2, x1, x2, y1, y2, kk, ek, f _ _ q⟩
end
end My
namespace My
open PySem PySem.W PySem.Spec PyProof.Rows L2
open GxR (TabB TabG Tabbed)
theorem cut_one {α : Type} {f : α → V} {xs : List α} {a : Nat} (h : a ≤ xs.length) : cutV (xs.map f) (some (a : Int)) (some ((a : Int) + 1)) = ((xs.drop a).take 1).map f := by
  show cutV (xs.map f) (some (a : Int)) (some (((a + 1 : Nat)) : Int)) = _
  unfold cutV
  rw [HT.sIx_nat, HT.sIx_nat, List.length_map, List.map_take, List.map_drop]
  by_cases l : a < xs.length
  · rw [Nat.min_eq_left (by omega : a ≤ xs.length), Nat.min_eq_left (by omega : a + 1 ≤ xs.length), Nat.add_sub_cancel_left]
  · have e : a = xs.length := by omega
    have d : (xs.map f).drop (min a xs.length) = [] := List.drop_eq_nil_of_le (by rw [List.length_map]; omega)
    have d2 : (xs.map f).drop a = [] := List.drop_eq_nil_of_le (by rw [List.length_map]; omega)
    rw [d, d2, List.take_nil, List.take_nil]
def spRight (C : Cd) : Sp := fun vs H Q _ => ∃ (Hk : Hp) (j p : Addr) (bd : List Tm) (n : Nat), vs = [.ref j, .ref p] ∧ Ph C Hk H j n ∧ n + 2000 ≤ 1000000000 ∧ BdAt (Of1 j H) p bd ∧ BdOk bd ∧ BdF bd ∧ LvB bd ∧
  ∀ (H' : Hp), Ph C Hk H' j (n + 2000) → Sj j H H' → Q (.bl true) H'
section
variable {P : Program} {w : World} {K : PySem.W.Frag} {mg : Str → Option Value} {base : Heap} {A : Ad} {C : Cd}
theorem ok_right (T : Txt K mg A) (TB : TBs base mg C A) : FnOk P w K mg base CX0 8 A.f_right A.d_right P_right (spRight C) := by
  refine T.F_right.ok sc_right (fun vs H Q E h => ?_) (fun cdv A' outer s H vs Q E hr h => ?_)
  · obtain ⟨Hk, j, p, bd, n, rfl, _⟩ := h
    rfl
  · obtain ⟨Hk, j, p, bd, n, rfl, ph, n9, hb, ok, bf, lv, k⟩ := h
    refine ⟨_, (pss_cons (ps_set (i := 2) sc_right.nd rfl (Or.inr rfl) (pe_call (ok_chosen T TB) (hr.mono (by decide)) rfl T.g_chosen T.F_chosen.kp T.b_chosen .nil pass0 (pa_cons (pv 0) (pa_cons (pv 1) (pa_cons (pe_lst pa_nil) pa_nil)))))
    (pss_cons (ps_if (PW.pt (pw_or (pt_cmpR op_isN (pv 2) pe_non (nomark _)) (pw_or1 (pt_not (pt_val (pe_call (ok_can_have T TB) (hr.mono (by decide)) rfl T.g_can_have T.F_can_have.kp T.b_can_have .nil pass0 (pa_cons (pv 1) (pa_cons (pe_rev (pv 2) (po_some (pe_un un_neg pe_int))) pa_nil))))))))
      (pss_one (ps_ret pe_bl))
      pss_nil)
    (pss_cons (ps_set (i := 3) sc_right.nd rfl (Or.inr rfl) (pe_call (ok_dip T) (hr.mono (by decide)) rfl T.g_dip T.F_dip.kp T.b_dip .nil pass0 (pa_cons (pv 0) (pa_cons (pe_op op_add (pe_callB (len_seqK (K := K) rfl) (by rfl) T.n_len PySem.boot_len (pa_cons (pv 2) pa_nil)) pe_int) pa_nil))))
    (pss_cons (ps_set (i := 4) sc_right.nd rfl (Or.inl rfl) (pe_call (ok_chosen T TB) (hr.mono (by decide)) rfl T.g_chosen T.F_chosen.kp T.b_chosen .nil pass0 (pa_cons (pv 0) (pa_cons (pv 1) (pa_cons (pe_slice (sl_listK (K := K) rfl) (pv 2) po_none (po_some (pv 3))) pa_nil)))))
    (pss_cons (ps_if (PW.pt (pw_or (pt_cmpR op_isN (pv 4) pe_non (nomark _)) (pw_or1 (pt_not (pt_val (pe_call (ok_can_have T TB) (hr.mono (by decide)) rfl T.g_can_have T.F_can_have.kp T.b_can_have .nil pass0 (pa_cons (pv 1) (pa_cons (pe_rev (pv 4) (po_some (pe_un un_neg pe_int))) pa_nil))))))))
      (pss_one (ps_ret pe_bl))
      pss_nil)
    (pss_cons (ps_set (i := 5) sc_right.nd rfl (Or.inl rfl) (pe_call (ok_chosen T TB) (hr.mono (by decide)) rfl T.g_chosen T.F_chosen.kp T.b_chosen .nil pass0 (pa_cons (pv 0) (pa_cons (pv 1) (pa_cons (pe_lst pa_nil) pa_nil)))))
    (pss_cons (ps_set (i := 6) sc_right.nd rfl (Or.inl rfl) (pe_op op_cat (pe_slice (sl_listK (K := K) rfl) (pv 2) po_none (po_some (pv 3))) (pe_lc (own := [("bead", 9)]) (g := (gName 9)) rfl sc_right.nd (pi_listK (K := K) rfl (pv 5)) (blkOk_by (own := [("bead", 9)]) (N := N_right) (sc := defScope s_right) (by decide +kernel)) (fun _ _ _ _ _ => (pg_name (i := 9) sc_right.nd rfl (Or.inl rfl))) (fun _ _ _ _ _ => pts_one (pt_cmpR (notIn_seqK (K := K) rfl) (pv 9) (pe_slice (sl_listK (K := K) rfl) (pv 2) po_none (po_some (pv 3))) (by rfl))) (fun _ _ _ _ _ => by exact (pv 9)))))
    (pss_cons (ps_if (pt_not (pt_val (pe_call (ok_can_have T TB) (hr.mono (by decide)) rfl T.g_can_have T.F_can_have.kp T.b_can_have .nil pass0 (pa_cons (pv 1) (pa_cons (pe_rev (pv 6) (po_some (pe_un un_neg pe_int))) pa_nil)))))
      (pss_one (ps_ret pe_bl))
      pss_nil)
    (pss_cons (ps_set (i := 7) sc_right.nd rfl (Or.inl rfl) (pe_rev (pe_call (ok_order_of T TB) (hr.mono (by decide)) rfl T.g_order_of T.F_order_of.kp T.b_order_of .nil pass0 (pa_cons (pv 1) pa_nil)) (po_some (pe_un un_neg pe_int))))
    (pss_cons (ps_if (PW.pt (pw_or (pt_cmpR (gtDK (K := K) rfl hr.units) (pv 7) (pv 2) (nomark _)) (pw_or (pt_cmpR (gtDK (K := K) rfl hr.units) (pv 7) (pv 4) (nomark _)) (pw_or1 (pt_not (pt_val (pe_call (ok_can_have T TB) (hr.mono (by decide)) rfl T.g_can_have T.F_can_have.kp T.b_can_have .nil pass0 (pa_cons (pv 1) (pa_cons (pe_rev (pv 7) (po_some (pe_un un_neg pe_int))) pa_nil)))))))))
      (pss_one (ps_ret pe_bl))
      pss_nil)
    (pss_cons (ps_set (i := 8) sc_right.nd rfl (Or.inr rfl) (pe_call (ok_dip T) (hr.mono (by decide)) rfl T.g_dip T.F_dip.kp T.b_dip .nil pass0 (pa_cons (pv 0) (pa_cons (pe_op op_add (pe_callB (len_seqK (K := K) rfl) (by rfl) T.n_len PySem.boot_len (pa_cons (pv 2) pa_nil)) pe_int) pa_nil))))
    (pss_one (ps_ret (pe_cmpR (eqDK (K := K) rfl hr.units) (pe_lc (own := [("bead", 9)]) (g := (gName 9)) rfl sc_right.nd (pi_listK (K := K) rfl (pe_slice (sl_listK (K := K) rfl) (pv 2) (po_some (pv 8)) (po_some (pe_op op_add (pv 8) pe_int)))) (blkOk_by (own := [("bead", 9)]) (N := N_right) (sc := defScope s_right) (by decide +kernel)) (fun _ _ _ _ _ => (pg_name (i := 9) sc_right.nd rfl (Or.inl rfl))) (fun _ _ _ _ _ => pts_one (pt_val (pe_call (ok_barred T TB) (hr.mono (by decide)) rfl T.g_barred T.F_barred.kp T.b_barred .nil pass0 (pa_cons (pv 1) (pa_cons (pe_callB (sortedLK (K := K) rfl) (by rfl) T.n_sorted (by decide +kernel) (pa_cons (pe_slice (sl_listK (K := K) rfl) (pv 2) (po_some (pv 8)) po_none) pa_nil)) (pa_cons (pv 9) pa_nil)))))) (fun _ _ _ _ _ => by exact (pv 9))) (pe_lst pa_nil) (nomark _))))))))))))))), ?_⟩
    have at1 : ∀ {G : Hp}, Sj j H G → BdAt G p bd := fun s => hb.std (Sj.of1 s)
    have at2 : ∀ {G : Hp}, Sj j H G → BdAt (Of1 j G) p bd := fun s => hb.std (Sj.of2 s)
    have hop0 : ∀ ks, Known bd ks → ∃ tail, Ord bd ks ([] ++ tail) := fun ks kn => by
      obtain ⟨L, g⟩ := grd_ex _ rfl (goes_of lv kn)
      exact ⟨L, g.ord⟩
    refine ⟨_, rfl, _, rfl, (show 0 ≤ sizeLine by decide), fun e0 ne0 => ?_⟩
    have s0 := same_new (o := .lst []) ne0
    refine ⟨Hk, j, p, e0, bd, [], n, rfl, ph.same s0, by omega, at2 (Sj.same s0), ok, bf, lv, upd_same, hop0, fun F1 ks c1 G1 nF1 F1j h1 kn w8 kl o1 ph1 sj1 => ?_⟩
    have sj1 := (Sj.same (j := j) s0).trans sj1
    have rev8 : ∀ {cs : List Str}, Ord bd ks cs → W8 cs.reverse := fun o z hz => w8 z (o.p.mem_iff.mp (List.mem_reverse.mp hz))
    have or8 : ∀ {cs : List Str}, Ord bd ks cs → W8 cs := fun o z hz => w8 z (o.p.mem_iff.mp hz)
    have orl : ∀ {cs : List Str}, Ord bd ks cs → cs.length ≤ 288 := fun o => by rw [o.p.length_eq]; exact kl
    have revl : ∀ {cs : List Str}, Ord bd ks cs → cs.reverse.length ≤ 1000 := fun o => by rw [List.length_reverse, o.p.length_eq]; omega
    have nt : ∀ {xs : List V} (ps), HO.lst xs ≠ .tbl ps := fun ps z => by cases z
    -- the first
    refine ⟨_, rfl, rfl, _, rfl, ?_⟩
    rw [decide_eq_false (fun e => nomatch e)]
    refine iteF ?_
    refine ⟨_, rfl, _, rfl, _, rfl, _, rfl, rfl, F1, _, rfl, SqL.of h1, fun l2 nl2 => ?_⟩
    rw [← List.map_reverse]
    have sl2 := same_new (o := .lst (c1.reverse.map V.str)) nl2
    refine ⟨p, l2, bd, c1.reverse, rfl, at1 (sj1.trans (Sj.same sl2)), ok, bf, upd_same, (rev8 o1).lo, revl o1, (ph1.same sl2).g.tb, fun b2 G2 g2 hb2 => ?_⟩
    obtain rfl := hb2.mpr (o1.can kn)
    have pG2 := (ph1.same sl2).gr g2
    have jG2 := (sj1.trans (Sj.same sl2)).trans (Sj.std (g2.std (ph1.same sl2).g.tb))
    have tG2 : ∀ {c : Addr} {u : HO}, _ → (∀ ps, u ≠ .tbl ps) → G2 c = some u := fun {c u} e n => g2.std (ph1.same sl2).g.tb c u (sl2 c u e) n
    refine ⟨_, rfl, iteF (to_nx ?_)⟩
    have h1 := tG2 h1 nt
    refine ⟨_, rfl, _, rfl, F1, _, rfl, .inl (SqL.of h1), _, _, rfl, rfl, j, _, _, rfl, pG2.jg, by omega, by rw [List.length_map]; omega, by rw [List.length_map]; have := orl o1; omega, fun cu G3 cu0 cu1 j3 x3 => ?_⟩
    obtain ⟨c, rfl⟩ := Int.eq_ofNat_of_zero_le cu0
    have ph3 := pG2.dip j3 x3
    have sj3 := jG2.trans (Sj.ex x3)
    have h1 := x3 _ _ F1j h1
    have ec : cutV (c1.map V.str) none (some (c : Int)) = (c1.take c).map V.str := cut_to
    refine ⟨_, rfl, _, rfl, _, rfl, _, rfl, _, rfl, F1, _, rfl, SqL.of h1, fun l4 nl4 => ?_⟩
    rw [ec]
    have s4 := same_new (o := .lst ((c1.take c).map V.str)) nl4
    refine ⟨Hk, j, p, l4, bd, c1.take c, _, rfl, ph3.same s4, by omega, at2 (sj3.trans (Sj.same s4)), ok, bf, lv, upd_same, fun ks' kn' => ⟨c1.drop c, by rw [List.take_append_drop, kn'.uniq kn]; exact o1⟩, fun F4 ks4 c4 G4 nF4 F4j h4 kn4 _ _ o4 ph4 sj4 => ?_⟩
    obtain rfl := kn.uniq kn4
    have sj4 := (sj3.trans (Sj.same s4)).trans sj4
    have h1 : G4 F1 = _ := (show Sj j (upd G3 l4 _) G4 from by assumption) F1 _ F1j (s4 _ _ h1) nt
    refine ⟨_, rfl, rfl, _, rfl, ?_⟩
    rw [decide_eq_false (fun e => nomatch e)]
    refine iteF ?_
    refine ⟨_, rfl, _, rfl, _, rfl, _, rfl, rfl, F4, _, rfl, SqL.of h4, fun l5 nl5 => ?_⟩
    rw [← List.map_reverse]
    have sl5 := same_new (o := .lst (c4.reverse.map V.str)) nl5
    refine ⟨p, l5, bd, c4.reverse, rfl, at1 (sj4.trans (Sj.same sl5)), ok, bf, upd_same, (rev8 o4).lo, revl o4, (ph4.same sl5).g.tb, fun b5 G5 g5 hb5 => ?_⟩
    obtain rfl := hb5.mpr (o4.can kn)
    have pG5 := (ph4.same sl5).gr g5
    have jG5 := (sj4.trans (Sj.same sl5)).trans (Sj.std (g5.std (ph4.same sl5).g.tb))
    have tG5 : ∀ {c : Addr} {u : HO}, _ → (∀ ps, u ≠ .tbl ps) → G5 c = some u := fun {c u} e n => g5.std (ph4.same sl5).g.tb c u (sl5 c u e) n
    refine ⟨_, rfl, iteF (to_nx ?_)⟩
    have h1 := tG5 h1 nt
    have h4 := tG5 h4 nt
    -- mate
    refine ⟨_, rfl, _, rfl, (show 0 ≤ sizeLine by decide), fun e6 ne6 => ?_⟩
    have s6 := same_new (o := .lst []) ne6
    refine ⟨Hk, j, p, e6, bd, [], _, rfl, pG5.same s6, by omega, at2 (jG5.trans (Sj.same s6)), ok, bf, lv, upd_same, hop0, fun F7 ks7 c7 G7 nF7 F7j h7 kn7 _ _ o7 ph7 sjx7 => ?_⟩
    obtain rfl := kn.uniq kn7
    have sj7 := (jG5.trans (Sj.same s6)).trans sjx7
    have h1 := sjx7 F1 _ F1j (s6 _ _ h1) nt
    have h4 := sjx7 F4 _ F4j (s6 _ _ h4) nt
    -- mixed
    refine ⟨_, rfl, _, rfl, _, rfl, F1, _, rfl, SqL.of h1, fun l8 nl8 => ?_⟩
    rw [ec]
    have s8 := same_new (o := .lst ((c1.take c).map V.str)) nl8
    have hl8 : upd G7 l8 (.lst ((c1.take c).map V.str)) l8 = some (.lst ((c1.take c).map V.str)) := upd_same
    have h7' := s8 _ _ h7
    refine ⟨_, rfl, F7, rfl, ⟨_, SqL.of h7'⟩, fun D nD => ?_⟩
    have o7l := orl o7
    have o1l := orl o1
    have ctl : (c1.take c).length ≤ 288 := by rw [List.length_take]; omega
    refine lc_fil (K := K) (us := c7) (fun z => decide (z ∉ c1.take c)) (Same (upd G7 l8 (.lst ((c1.take c).map V.str)))) (fun z => rfl) (fun z => rfl) (by omega) (same_new nD) (fun F s => SqL.of (s _ _ h7')) (fun F acc y s h => same_over s nD) (fun i2 z F acc N hz sF hD n => ?_) (fun G9 s9 hD => ?_)
    · refine ⟨_, rfl, _, rfl, _, rfl, _, rfl, F1, _, rfl, SqL.of (sF _ _ (s8 _ _ h1)), fun q nq => ?_⟩
      rw [ec]
      have sq := same_new (o := .lst ((c1.take c).map V.str)) nq
      refine ⟨q, _, rfl, .inl (SqL.of upd_same), rfl, flat_strs _, _, rfl, ?_⟩
      rw [inV_strs]
      have qq := n _ (sF.trans sq) (sq _ _ hD)
      rw [decide_not] at qq
      exact qq
    have hD : G9 D = some (.lst ((c7.filter fun z => decide (z ∉ c1.take c)).map V.str)) := hD
    have fl := List.length_filter_le (fun z => decide (z ∉ c1.take c)) c7
    refine ⟨l8, D, _, _, rfl, rfl, s9 _ _ hl8, hD, by rw [List.length_map, List.length_map]; exact Nat.le_trans (show _ ≤ 576 by omega) (by decide), fun M nM => ?_⟩
    rw [← List.map_append]
    have om := o1.mix o7 kn c
    generalize hcm : c1.take c ++ c7.filter (fun z => decide (z ∉ c1.take c)) = cm at om
    have sM := (s8.trans s9).trans (same_new (o := .lst (cm.map V.str)) nM)
    have hM : upd G9 M (.lst (cm.map V.str)) M = some (.lst (cm.map V.str)) := upd_same
    have phA := ph7.same sM
    have sjA := sj7.trans (Sj.same sM)
    have h1 := sM _ _ h1
    have h4 := sM _ _ h4
    generalize upd G9 M (.lst (cm.map V.str)) = GA at phA sjA h1 h4 hM
    refine ⟨_, rfl, _, rfl, _, rfl, _, rfl, rfl, M, _, rfl, SqL.of hM, fun l7 nl7 => ?_⟩
    rw [← List.map_reverse]
    have sl7 := same_new (o := .lst (cm.reverse.map V.str)) nl7
    refine ⟨p, l7, bd, cm.reverse, rfl, at1 (sjA.trans (Sj.same sl7)), ok, bf, upd_same, (rev8 om).lo, revl om, (phA.same sl7).g.tb, fun b7 GB g7 hb7 => ?_⟩
    obtain rfl := hb7.mpr (om.can kn)
    have pGB := (phA.same sl7).gr g7
    have jGB := (sjA.trans (Sj.same sl7)).trans (Sj.std (g7.std (phA.same sl7).g.tb))
    have tGB : ∀ {c : Addr} {u : HO}, _ → (∀ ps, u ≠ .tbl ps) → GB c = some u := fun {c u} e n => g7.std (phA.same sl7).g.tb c u (sl7 c u e) n
    refine ⟨_, rfl, iteF (to_nx ?_)⟩
    have h1 := tGB h1 nt
    have h4 := tGB h4 nt
    -- the least
    refine ⟨_, rfl, p, bd, rfl, at1 jGB, ok, bf, lv, pGB.g.tb, fun q ksC cC GC nq hq knC gC _ _ gg => ?_⟩
    obtain rfl := kn.uniq knC
    have stC := gg.std pGB.g.tb
    refine ⟨_, rfl, _, rfl, rfl, q, _, rfl, SqL.of hq, fun L nL => ?_⟩
    rw [← List.map_reverse, List.reverse_reverse]
    have sL := same_new (o := .lst (cC.map V.str)) nL
    have hL : upd GC L (.lst (cC.map V.str)) L = some (.lst (cC.map V.str)) := upd_same
    have phD := (pGB.gr gg).same sL
    have sjD := (jGB.trans (Sj.std stC)).trans (Sj.same sL)
    have h1 := sL _ _ (stC _ _ h1 nt)
    have h4 := sL _ _ (stC _ _ h4 nt)
    generalize upd GC L (.lst (cC.map V.str)) = GD at phD sjD h1 h4 hL
    have oC := gC.ord
    have al : ∀ xs ys : List Str, alike (dStrs xs) (dStrs ys) = true := fun xs ys => by
      unfold dStrs
      rw [alike]
      exact alikeS xs ys
    have dp : ∀ xs ys : List Str, min (dStrs xs).depth (dStrs ys).depth ≤ 64 := fun xs ys => Nat.le_trans (Nat.min_le_left _ _) (by have := (shw_strs xs).p; omega)
    refine ⟨_, rfl, _, rfl, dStrs cC, dStrs c1, .lst (SqL.of hL) (dp_strs _), .lst (SqL.of h1) (dp_strs _), al _ _, (fun e => by unfold dStrs at e; cases e), dp _ _, _, rfl, ?_⟩
    rw [not_gt gC kn o1]
    refine iteF ?_
    refine ⟨_, rfl, _, rfl, dStrs cC, dStrs c4, .lst (SqL.of hL) (dp_strs _), .lst (SqL.of h4) (dp_strs _), al _ _, (fun e => by unfold dStrs at e; cases e), dp _ _, _, rfl, ?_⟩
    rw [not_gt gC kn o4]
    refine iteF ?_
    refine ⟨_, rfl, _, rfl, _, rfl, _, rfl, rfl, L, _, rfl, SqL.of hL, fun l8 nl8 => ?_⟩
    rw [← List.map_reverse]
    have sl8 := same_new (o := .lst (cC.reverse.map V.str)) nl8
    refine ⟨p, l8, bd, cC.reverse, rfl, at1 (sjD.trans (Sj.same sl8)), ok, bf, upd_same, (rev8 oC).lo, revl oC, (phD.same sl8).g.tb, fun b8 GE g8 hb8 => ?_⟩
    obtain rfl := hb8.mpr (oC.can kn)
    have pGE := (phD.same sl8).gr g8
    have jGE := (sjD.trans (Sj.same sl8)).trans (Sj.std (g8.std (phD.same sl8).g.tb))
    have tGE : ∀ {c : Addr} {u : HO}, _ → (∀ ps, u ≠ .tbl ps) → GE c = some u := fun {c u} e n => g8.std (phD.same sl8).g.tb c u (sl8 c u e) n
    refine ⟨_, rfl, iteF (to_nx ?_)⟩
    have h1 := tGE h1 nt
    -- at
    refine ⟨_, rfl, _, rfl, F1, _, rfl, .inl (SqL.of h1), _, _, rfl, rfl, j, _, _, rfl, pGE.jg, by omega, by rw [List.length_map]; omega, by rw [List.length_map]; omega, fun d GF d0 d1 jF xF => ?_⟩
    rw [List.length_map] at d1
    obtain ⟨a, rfl⟩ := Int.eq_ofNat_of_zero_le d0
    have phF := pGE.dip jF xF
    have sjF := jGE.trans (Sj.ex xF)
    have h1 := xF _ _ F1j h1
    refine ⟨_, rfl, _, rfl, _, rfl, _, rfl, _, _, rfl, rfl, _, rfl, F1, _, rfl, SqL.of h1, fun l9 nl9 => ?_⟩
    rw [cut_one (a := a) (by omega)]
    have s9 := same_new (o := .lst (((c1.drop a).take 1).map V.str)) nl9
    have hl9 : upd GF l9 (.lst (((c1.drop a).take 1).map V.str)) l9 = _ := upd_same
    have ph9 := phF.same s9
    have sj9 := sjF.trans (Sj.same s9)
    have h1 := s9 _ _ h1
    generalize upd GF l9 (.lst (((c1.drop a).take 1).map V.str)) = GG at ph9 sj9 h1 hl9
    refine ⟨l9, rfl, ⟨_, SqL.of hl9⟩, fun D2 nD2 => ?_⟩
    have tk1 : ((c1.drop a).take 1).length ≤ 1 := by rw [List.length_take]; omega
    have gD2 := (Gr.refl ph9.g.tb).same (same_new (o := .lst []) nD2)
    refine lc_fil (K := K) (us := (c1.drop a).take 1) (fun z => false) (Gr C.tabs GG) (fun z => rfl) (fun z => rfl) (by omega) gD2 (fun F2 s => sqL_std (s.std ph9.g.tb) (SqL.of hl9)) (fun F2 acc y s h => s.over nD2 h fun ps z => by cases z) (fun i2 z F2 acc N hz sF2 hD2 n => ?_) (fun F2 sF2 hD2 => ?_)
    · have st2 := sF2.std ph9.g.tb
      refine ⟨_, rfl, _, rfl, _, rfl, _, rfl, F1, _, rfl, SqL.of (st2 _ _ h1 nt), fun q nq => ?_⟩
      rw [show cutV (c1.map V.str) (some (a : Int)) none = (c1.drop a).map V.str from cut_from]
      have sq := same_new (o := .lst ((c1.drop a).map V.str)) nq
      refine ⟨q, _, rfl, SqL.of upd_same, fun ys q2 pm srt nq2 => ?_⟩
      have sq2 := sq.trans (same_new (o := .lst (ys.map V.str)) nq2)
      have gq := sF2.same sq2
      refine ⟨_, rfl, p, q2, bd, ys, z, rfl, at1 (sj9.trans (Sj.std (gq.std ph9.g.tb))), ok, bf, upd_same, gq.tb, fun F3 g3 => ⟨_, rfl, ?_⟩⟩
      have zb : barB ys z bd = false := by
        have zm := List.mem_of_getElem? hz
        have sd := o1.s.drop a
        cases hd : c1.drop a with
        | nil => rw [hd] at zm; cases zm
        | cons y r =>
          rw [hd] at zm sd pm
          have e : z = y := List.mem_singleton.mp zm
          subst e
          rw [barB_set (B := z :: r) (fun x => pm.mem_iff)]
          exact sd.1
      rw [zb]
      exact n _ (gq.trans g3) (g3.std gq.tb _ _ (sq2 _ _ hD2) nt)
    have hD2 : F2 D2 = some (.lst ((((c1.drop a).take 1).filter fun z => false).map V.str)) := hD2
    rw [show ((c1.drop a).take 1).filter (fun z => false) = [] from List.filter_eq_nil_iff.mpr fun z _ q => by cases q] at hD2
    refine ⟨(show 0 ≤ sizeLine by decide), fun e2 ne2 => ?_⟩
    have sz := same_new (o := .lst []) ne2
    refine ⟨.list [], .list [], .lst (SqL.of (sz _ _ hD2)) .nil, .lst (SqL.of upd_same) .nil, shaped_strs w8_nil, shaped_strs w8_nil, ?_⟩
    rw [eqv_nil]
    have gE := sF2.same sz
    exact k _ ((ph9.gr gE).more (by omega)) (sj9.trans (Sj.std (gE.std ph9.g.tb)))
end
end My
namespace My
open PySem PySem.Spec PyProof.Rows L2
open GxR (TabB TabG Tabbed)
def spLaw (K : PySem.W.Frag) (C : Cd) : Sp := fun vs H Q _ => ∃ (a : Addr) (ns : List Int), vs = [.ref a] ∧ SqL K H a (ns.map V.int) ∧ ns.length ≤ 63 ∧ Tbs C.tabs H ∧ ∀ H', Q (.bl true) H'
section
variable {P : Program} {w : World} {K : PySem.W.Frag} {mg : Str → Option Value} {base : Heap} {A : Ad} {C : Cd}
theorem ok_law {f : Addr} {fd : FuncData} (F : Fun K "law" "law" s_law f fd) (T : Txt K mg A) (TB : TBs base mg C A) : FnG P w K mg base CX0 9 f fd P_law (spLaw K C) := by
  refine okG F sc_law (fun vs H Q E h => ?_) (fun cdv A' outer s H vs Q E gd hr h => ?_)
  · obtain ⟨a, ns, rfl, _⟩ := h
    rfl
  · obtain ⟨a, ns, rfl, hS, n63, tb, k⟩ := h
    have gd : (A'.deeper (envOfC "law" (defScope s_law) s.heap.objs.size f cdv)).guards = some [] := gd
    refine ⟨_, (pss_cons (ps_for PassesOwn.never rfl (pi_range1 (by rfl) T.n_range (pa_cons (pe_callB (call_max2 rfl) (by rfl) T.n_max (by decide +kernel) (pa_cons pe_int (pa_cons (pe_callB (call_min2 rfl) (by rfl) T.n_min (by decide +kernel) (pa_cons pe_int (pa_cons (pe_callB (len_seqK (K := K) rfl) (by rfl) T.n_len PySem.boot_len (pa_cons (pv 0) pa_nil)) pa_nil))) pa_nil))) pa_nil)) (pg_name (i := 1) sc_law.nd rfl (Or.inl rfl))
      (pss_cons (ps_set (i := 2) sc_law.nd rfl (Or.inl rfl) (pe_call (ok_jug T) (hr.mono (by decide)) rfl T.g_jug T.F_jug.kp T.b_jug .nil pass0 (pa_cons (pv 0) (pa_cons (pv 1) pa_nil))))
      (pss_cons (ps_asg (pe_ix (ix_listK (K := K) rfl) (pe_lst (pa_cons (pe_tup (pa_cons pe_int (pa_cons pe_int (pa_cons pe_int pa_nil)))) (pa_cons (pe_tup (pa_cons pe_int (pa_cons pe_int (pa_cons pe_int pa_nil)))) (pa_cons (pe_tup (pa_cons pe_int (pa_cons pe_int (pa_cons pe_int pa_nil)))) pa_nil)))) (pe_call (ok_dip T) (hr.mono (by decide)) rfl T.g_dip T.F_dip.kp T.b_dip .nil pass0 (pa_cons (pv 2) (pa_cons pe_int pa_nil))) (fun _ _ => rfl)) (pg_tup rfl (pgs_cons (pg_name (i := 3) sc_law.nd rfl (Or.inl rfl)) (pgs_cons (pg_name (i := 4) sc_law.nd rfl (Or.inl rfl)) (pgs_cons (pg_name (i := 5) sc_law.nd rfl (Or.inl rfl)) pgs_nil)))))
      (pss_cons (ps_set (i := 6) sc_law.nd rfl (Or.inl rfl) (pe_ix (ix_tupK (K := K) rfl) (pe_call (ok_lived T) (hr.mono (by decide)) rfl T.g_lived T.F_lived.kp T.b_lived .nil pass0 (pa_cons (pv 2) (pa_cons (pv 3) (pa_cons (pv 4) (pa_cons (pv 5) pa_nil))))) pe_int (fun _ _ => rfl)))
      (pss_one (ps_for PassesOwn.never rfl (pi_range1 (by rfl) T.n_range (pa_cons pe_int pa_nil)) (pg_name (i := 7) sc_law.nd rfl (Or.inl rfl))
        (pss_one (ps_if (pt_not (pt_val (pe_call (ok_right T TB) (hr.mono (by decide)) rfl T.g_right T.F_right.kp T.b_right .nil pass0 (pa_cons (pv 2) (pa_cons (pv 6) pa_nil)))))
          (pss_one (ps_ret pe_bl))
          pss_nil))))))))
    (pss_one (ps_ret (pe_cmpR (eqDK (K := K) rfl hr.units) (pe_call (ok_order_of T TB) (hr.mono (by decide)) rfl T.g_order_of T.F_order_of.kp T.b_order_of .nil pass0 (pa_cons (pe_lst pa_nil) pa_nil)) (pe_lst pa_nil) (nomark _))))), ?_⟩
    obtain ⟨m, em, m1, m8⟩ : ∃ m : Nat, (if (1 : Int) < (if (((ns.map V.int).length : Nat) : Int) < 4 then (((ns.map V.int).length : Nat) : Int) else 4) then (if (((ns.map V.int).length : Nat) : Int) < 4 then (((ns.map V.int).length : Nat) : Int) else 4) else 1) = (m : Int) ∧ 1 ≤ m ∧ m ≤ 4 := by
      split <;> split <;> first | exact ⟨_, rfl, by omega, by omega⟩ | exact ⟨4, rfl, by omega, by omega⟩ | exact ⟨1, rfl, by omega, by omega⟩
    refine ⟨_, rfl, a, _, rfl, .inl hS, _, _, rfl, _, _, rfl, ?_⟩
    rw [em]
    have sq : ∀ {G : Hp}, Gr C.tabs H G → SqL K G a (ns.map V.int) := fun g => sqL_std (g.std tb) hS
    refine ⟨m, rfl, by omega, by omega, for_range (lo := 0) (n := (m : Int).toNat) (fun i σ G => Gr C.tabs H G ∧ ∃ (v1 v2 v3 v4 v5 v6 v7 : Option V), σ = [some (.ref a), v1, v2, v3, v4, v5, v6, v7]) ⟨Gr.refl tb, _, _, _, _, _, _, _, rfl⟩ ?_ ?_⟩
    · rintro i σ G hi ⟨gG, v1, v2, v3, v4, v5, v6, v7, rfl⟩
      rw [Int.toNat_natCast] at hi
      refine ⟨_, rfl, _, rfl, a, ns, i, by rw [Int.zero_add]; rfl, sq gG, n63, by omega, fun j H1 nj jg s1 => ?_⟩
      have ph1 : Ph C G H1 j 0 := ⟨jg, (Gr.refl gG.tb).same s1, nj⟩
      refine ⟨(show 3 ≤ sizeLine by decide), fun t1 n1 => ?_⟩
      have p1 := ph1.new (o := .tup [V.int 3, .int 2, .int 8]) n1
      have j1' := ph1.jg.ne n1
      refine ⟨(show 3 ≤ sizeLine by decide), fun t2 n2 => ?_⟩
      have p2 := p1.new (o := .tup [V.int 5, .int 4, .int 20]) n2
      have j2' := p1.jg.ne n2
      refine ⟨(show 3 ≤ sizeLine by decide), fun t3 n3 => ?_⟩
      have p3 := p2.new (o := .tup [V.int 8, .int 12, .int 60]) n3
      have j3' := p2.jg.ne n3
      have h1 : (upd H1 t1 (.tup [V.int 3, .int 2, .int 8])) t1 = some (.tup [V.int 3, .int 2, .int 8]) := upd_same
      have h1' := same_new (o := .tup [V.int 5, .int 4, .int 20]) n2 _ _ h1
      have h1'' := same_new (o := .tup [V.int 8, .int 12, .int 60]) n3 _ _ h1'
      have h2 : (upd (upd H1 t1 (.tup [V.int 3, .int 2, .int 8])) t2 (.tup [V.int 5, .int 4, .int 20])) t2 = some (.tup [V.int 5, .int 4, .int 20]) := upd_same
      have h2' := same_new (o := .tup [V.int 8, .int 12, .int 60]) n3 _ _ h2
      refine ⟨(show 3 ≤ sizeLine by decide), fun q nq => ?_⟩
      have p4 := p3.new (o := .lst [V.ref t1, .ref t2, .ref t3]) nq
      have jq := p3.jg.ne nq
      refine ⟨_, rfl, j, 3, 0, rfl, p4.jg, by omega, by decide, by decide, fun r G5 r0 r1 j5 x5 => ?_⟩
      have p5 := p4.dip j5 x5
      have g1 := x5 t1 _ j1' (same_new (o := .lst [V.ref t1, .ref t2, .ref t3]) nq _ _ h1'')
      have g2 := x5 t2 _ j2' (same_new (o := .lst [V.ref t1, .ref t2, .ref t3]) nq _ _ h2')
      have g3 := x5 t3 _ j3' (same_new (o := .lst [V.ref t1, .ref t2, .ref t3]) nq _ _ upd_same)
      have gq := x5 q _ jq upd_same
      obtain ⟨tt, mo, wi, lo, et, gt, a1, a8, b1, b12, c1, c60⟩ : ∃ (tt : Addr) (a b c : Int), atI [V.ref t1, .ref t2, .ref t3] r = some (.ref tt) ∧ G5 tt = some (.tup [.int a, .int b, .int c]) ∧ 1 ≤ a ∧ a ≤ 8 ∧ 1 ≤ b ∧ b ≤ 12 ∧ 1 ≤ c ∧ c ≤ 60 := by
        obtain e | e | e : r = 0 ∨ r = 1 ∨ r = 2 := by omega
        · subst e
          exact ⟨t1, _, _, _, rfl, g1, by decide, by decide, by decide, by decide, by decide, by decide⟩
        · subst e
          exact ⟨t2, _, _, _, rfl, g2, by decide, by decide, by decide, by decide, by decide, by decide⟩
        · subst e
          exact ⟨t3, _, _, _, rfl, g3, by decide, by decide, by decide, by decide, by decide, by decide⟩
      refine ⟨q, _, _, _, rfl, rfl, SqL.of gq, et, tt, _, rfl, SqT.of gt, rfl, _, _, rfl, _, _, rfl, _, _, rfl, rfl, ?_⟩
      refine ⟨_, rfl, _, rfl, _, rfl, _, rfl, j, mo, wi, lo, _, rfl, p5.jg, by omega, a1, a8, b1, b12, c1, c60, fun t qh ps fs φ H8 ht hall8 lvq ms8 => ?_⟩
      have ph8 := p5.dip ms8.jg ms8.x
      obtain ⟨bd8, hb8, ok8, bf8⟩ := hall8.off.bd
      have lv8 := lvq bd8 (hb8.std (Sj.of1 (Sj.refl j H8)))
      refine ⟨t, _, _, _, rfl, rfl, SqT.of ht, rfl, ?_⟩
      refine ⟨2, rfl, by decide, by decide, for_range (lo := 0) (n := 2) (fun i2 σ F => Ph C G F j (60000 + 2000 * i2) ∧ Sj j H8 F ∧ ∃ v7 : Option V, σ = [some (.ref a), some (.int (0 + (i : Nat))), some (.ref j), some (.int mo), some (.int wi), some (.int lo), some (.ref qh), v7])
        ⟨ph8.more (by omega), Sj.refl _ _, _, rfl⟩ ?_ ?_⟩
      · rintro i2 σ F hi2 ⟨phF, sjF, v7, rfl⟩
        refine ⟨_, rfl, _, rfl, G, j, qh, bd8, _, rfl, phF, by omega, hb8.std (Sj.of2 sjF), ok8, bf8, lv8, fun H9 ph9 sj9 => ⟨_, rfl, iteF (to_nx ?_)⟩⟩
        exact ⟨ph9.more (by omega), sjF.trans sj9, _, rfl⟩
      · rintro σ F ⟨phF, sjF, v7, rfl⟩
        exact ⟨gG.trans phF.g, _, _, _, _, _, _, _, rfl⟩
    · rintro σ G ⟨gG, v1, v2, v3, v4, v5, v6, v7, rfl⟩
      refine ⟨(show 0 ≤ sizeLine by decide), fun b nb => ?_⟩
      have sb := same_new (o := .lst []) nb
      have gb := (Gr.refl gG.tb).same sb
      refine ⟨b, [], rfl, ⟨[], upd_same, .nil⟩, ⟨by decide, fun t h => nomatch h⟩, ⟨(fun t h => nomatch h), fun t h => nomatch h⟩, ⟨fun _ => 0, (fun t h => nomatch h), fun t h => nomatch h⟩, gb.tb, fun q ks cs H2 nq hq kn gr _ _ g2 => ?_⟩
      have e0 : ks = [] := by
        cases ks with
        | nil => rfl
        | cons z r => exact nomatch (kn.mem z).mp List.mem_cons_self
      have e1 : cs = [] := by
        have pm := gr.ord.p
        rw [e0] at pm
        exact List.Perm.eq_nil pm
      rw [e1] at hq
      refine ⟨(show 0 ≤ sizeLine by decide), fun e ne => ?_⟩
      have se := same_new (o := .lst []) ne
      refine ⟨.list [], .list [], .lst (SqL.of (se _ _ hq)) .nil, .lst (SqL.of upd_same) .nil, shaped_strs w8_nil, shaped_strs w8_nil, ?_⟩
      rw [eqv_nil]
      exact k _
end
end My
namespace My
open PySem PySem.Spec PyProof.Rows L2
theorem all_mk {l : PySem.W.OpenLaw} {q : Program} {w : World} {K : PySem.W.Frag} {h : Heap} {mg : Str → Option Value} {fa kb pb dT f0 f1 f2 f3 f4 f5 f6 f7 f8 f9 f10 f11 f12 f13 f14 f15 f16 f17 f18 f19 f20 f21 f22 f23 f24  : Addr} (X : K.In h) (G : h.Ns mainGlobals mg) (hfa : mg "law" = some (.ref fa))
    {od0 an0 : Option Addr} {sl0 : Array (Option Value)} {oc0 kV0 dc0 pm0 cd0 ct0 : Value}
    {od1 an1 : Option Addr} {sl1 : Array (Option Value)} {oc1 kV1 dc1 pm1 cd1 ct1 : Value}
    {od2 an2 : Option Addr} {sl2 : Array (Option Value)} {oc2 kV2 dc2 pm2 cd2 ct2 : Value}
    {od3 an3 : Option Addr} {sl3 : Array (Option Value)} {oc3 kV3 dc3 pm3 cd3 ct3 : Value}
    {od4 an4 : Option Addr} {sl4 : Array (Option Value)} {oc4 kV4 dc4 pm4 cd4 ct4 : Value}
    {od5 an5 : Option Addr} {sl5 : Array (Option Value)} {oc5 kV5 dc5 pm5 cd5 ct5 : Value}
    {od6 an6 : Option Addr} {sl6 : Array (Option Value)} {oc6 kV6 dc6 pm6 cd6 ct6 : Value}
    {od7 an7 : Option Addr} {sl7 : Array (Option Value)} {oc7 kV7 dc7 pm7 cd7 ct7 : Value}
    {od8 an8 : Option Addr} {sl8 : Array (Option Value)} {oc8 kV8 dc8 pm8 cd8 ct8 : Value}
    {od9 an9 : Option Addr} {sl9 : Array (Option Value)} {oc9 kV9 dc9 pm9 cd9 ct9 : Value}
    {od10 an10 : Option Addr} {sl10 : Array (Option Value)} {oc10 kV10 dc10 pm10 cd10 ct10 : Value}
    {od11 an11 : Option Addr} {sl11 : Array (Option Value)} {oc11 kV11 dc11 pm11 cd11 ct11 : Value}
    {od12 an12 : Option Addr} {sl12 : Array (Option Value)} {oc12 kV12 dc12 pm12 cd12 ct12 : Value}
    {od13 an13 : Option Addr} {sl13 : Array (Option Value)} {oc13 kV13 dc13 pm13 cd13 ct13 : Value}
    {od14 an14 : Option Addr} {sl14 : Array (Option Value)} {oc14 kV14 dc14 pm14 cd14 ct14 : Value}
    {od15 an15 : Option Addr} {sl15 : Array (Option Value)} {oc15 kV15 dc15 pm15 cd15 ct15 : Value}
    {od16 an16 : Option Addr} {sl16 : Array (Option Value)} {oc16 kV16 dc16 pm16 cd16 ct16 : Value}
    {od17 an17 : Option Addr} {sl17 : Array (Option Value)} {oc17 kV17 dc17 pm17 cd17 ct17 : Value}
    {od18 an18 : Option Addr} {sl18 : Array (Option Value)} {oc18 kV18 dc18 pm18 cd18 ct18 : Value}
    {od19 an19 : Option Addr} {sl19 : Array (Option Value)} {oc19 kV19 dc19 pm19 cd19 ct19 : Value}
    {od20 an20 : Option Addr} {sl20 : Array (Option Value)} {oc20 kV20 dc20 pm20 cd20 ct20 : Value}
    {od21 an21 : Option Addr} {sl21 : Array (Option Value)} {oc21 kV21 dc21 pm21 cd21 ct21 : Value}
    {od22 an22 : Option Addr} {sl22 : Array (Option Value)} {oc22 kV22 dc22 pm22 cd22 ct22 : Value}
    {od23 an23 : Option Addr} {sl23 : Array (Option Value)} {oc23 kV23 dc23 pm23 cd23 ct23 : Value}
    {od24 an24 : Option Addr} {sl24 : Array (Option Value)} {oc24 kV24 dc24 pm24 cd24 ct24 : Value}
    (a0 : PySem.W.nsIn K mainGlobals "bar_of" = some (some (.ref f0)))
    (l0 : K.lookup f0 = some ⟨oc0, od0, .func (PySem.W.fnOf "bar_of" "bar_of" (defArgs s_bar_of) (defBody s_bar_of) (defScope s_bar_of) (.ref dT) kV0 dc0 pm0 an0 cd0 ct0), sl0⟩)
    (c0 : PySem.W.codeIn K cd0 "bar_of" = true)
    (k0 : PySem.W.keepIn K (.ref f0) = true)
    (a1 : PySem.W.nsIn K mainGlobals "bars_of" = some (some (.ref f1)))
    (l1 : K.lookup f1 = some ⟨oc1, od1, .func (PySem.W.fnOf "bars_of" "bars_of" (defArgs s_bars_of) (defBody s_bars_of) (defScope s_bars_of) .none kV1 dc1 pm1 an1 cd1 ct1), sl1⟩)
    (c1 : PySem.W.codeIn K cd1 "bars_of" = true)
    (k1 : PySem.W.keepIn K (.ref f1) = true)
    (a2 : PySem.W.nsIn K mainGlobals "hearers" = some (some (.ref f2)))
    (l2 : K.lookup f2 = some ⟨oc2, od2, .func (PySem.W.fnOf "hearers" "hearers" (defArgs s_hearers) (defBody s_hearers) (defScope s_hearers) .none kV2 dc2 pm2 an2 cd2 ct2), sl2⟩)
    (c2 : PySem.W.codeIn K cd2 "hearers" = true)
    (k2 : PySem.W.keepIn K (.ref f2) = true)
    (a3 : PySem.W.nsIn K mainGlobals "is_barred" = some (some (.ref f3)))
    (l3 : K.lookup f3 = some ⟨oc3, od3, .func (PySem.W.fnOf "is_barred" "is_barred" (defArgs s_is_barred) (defBody s_is_barred) (defScope s_is_barred) .none kV3 dc3 pm3 an3 cd3 ct3), sl3⟩)
    (c3 : PySem.W.codeIn K cd3 "is_barred" = true)
    (k3 : PySem.W.keepIn K (.ref f3) = true)
    (a4 : PySem.W.nsIn K mainGlobals "free_of" = some (some (.ref f4)))
    (l4 : K.lookup f4 = some ⟨oc4, od4, .func (PySem.W.fnOf "free_of" "free_of" (defArgs s_free_of) (defBody s_free_of) (defScope s_free_of) .none kV4 dc4 pm4 an4 cd4 ct4), sl4⟩)
    (c4 : PySem.W.codeIn K cd4 "free_of" = true)
    (k4 : PySem.W.keepIn K (.ref f4) = true)
    (a5 : PySem.W.nsIn K mainGlobals "left_of" = some (some (.ref f5)))
    (l5 : K.lookup f5 = some ⟨oc5, od5, .func (PySem.W.fnOf "left_of" "left_of" (defArgs s_left_of) (defBody s_left_of) (defScope s_left_of) .none kV5 dc5 pm5 an5 cd5 ct5), sl5⟩)
    (c5 : PySem.W.codeIn K cd5 "left_of" = true)
    (k5 : PySem.W.keepIn K (.ref f5) = true)
    (a6 : PySem.W.nsIn K mainGlobals "keepers_of" = some (some (.ref f6)))
    (l6 : K.lookup f6 = some ⟨oc6, od6, .func (PySem.W.fnOf "keepers_of" "keepers_of" (defArgs s_keepers_of) (defBody s_keepers_of) (defScope s_keepers_of) .none kV6 dc6 pm6 an6 cd6 ct6), sl6⟩)
    (c6 : PySem.W.codeIn K cd6 "keepers_of" = true)
    (k6 : PySem.W.keepIn K (.ref f6) = true)
    (a7 : PySem.W.nsIn K mainGlobals "things" = some (some (.ref f7)))
    (l7 : K.lookup f7 = some ⟨oc7, od7, .func (PySem.W.fnOf "things" "things" (defArgs s_p_things) (defBody s_p_things) (defScope s_p_things) .none kV7 dc7 pm7 an7 cd7 ct7), sl7⟩)
    (c7 : PySem.W.codeIn K cd7 "things" = true)
    (k7 : PySem.W.keepIn K (.ref f7) = true)
    (a8 : PySem.W.nsIn K mainGlobals "barred" = some (some (.ref f8)))
    (l8 : K.lookup f8 = some ⟨oc8, od8, .func (PySem.W.fnOf "barred" "barred" (defArgs s_barred) (defBody s_barred) (defScope s_barred) .none kV8 dc8 pm8 an8 cd8 ct8), sl8⟩)
    (c8 : PySem.W.codeIn K cd8 "barred" = true)
    (k8 : PySem.W.keepIn K (.ref f8) = true)
    (a9 : PySem.W.nsIn K mainGlobals "stuck" = some (some (.ref f9)))
    (l9 : K.lookup f9 = some ⟨oc9, od9, .func (PySem.W.fnOf "stuck" "stuck" (defArgs s_stuck) (defBody s_stuck) (defScope s_stuck) .none kV9 dc9 pm9 an9 cd9 ct9), sl9⟩)
    (c9 : PySem.W.codeIn K cd9 "stuck" = true)
    (k9 : PySem.W.keepIn K (.ref f9) = true)
    (a10 : PySem.W.nsIn K mainGlobals "need_order" = some (some (.ref f10)))
    (l10 : K.lookup f10 = some ⟨oc10, od10, .func (PySem.W.fnOf "need_order" "need_order" (defArgs s_need_order) (defBody s_need_order) (defScope s_need_order) .none kV10 dc10 pm10 an10 cd10 ct10), sl10⟩)
    (c10 : PySem.W.codeIn K cd10 "need_order" = true)
    (k10 : PySem.W.keepIn K (.ref f10) = true)
    (a11 : PySem.W.nsIn K mainGlobals "can_have" = some (some (.ref f11)))
    (l11 : K.lookup f11 = some ⟨oc11, od11, .func (PySem.W.fnOf "can_have" "can_have" (defArgs s_can_have) (defBody s_can_have) (defScope s_can_have) .none kV11 dc11 pm11 an11 cd11 ct11), sl11⟩)
    (c11 : PySem.W.codeIn K cd11 "can_have" = true)
    (k11 : PySem.W.keepIn K (.ref f11) = true)
    (a12 : PySem.W.nsIn K mainGlobals "newest_first" = some (some (.ref f12)))
    (l12 : K.lookup f12 = some ⟨oc12, od12, .func (PySem.W.fnOf "newest_first" "newest_first" (defArgs s_newest_first) (defBody s_newest_first) (defScope s_newest_first) .none kV12 dc12 pm12 an12 cd12 ct12), sl12⟩)
    (c12 : PySem.W.codeIn K cd12 "newest_first" = true)
    (k12 : PySem.W.keepIn K (.ref f12) = true)
    (a13 : PySem.W.nsIn K mainGlobals "order_of" = some (some (.ref f13)))
    (l13 : K.lookup f13 = some ⟨oc13, od13, .func (PySem.W.fnOf "order_of" "order_of" (defArgs s_order_of) (defBody s_order_of) (defScope s_order_of) .none kV13 dc13 pm13 an13 cd13 ct13), sl13⟩)
    (c13 : PySem.W.codeIn K cd13 "order_of" = true)
    (k13 : PySem.W.keepIn K (.ref f13) = true)
    (a14 : PySem.W.nsIn K mainGlobals "_law_jug" = some (some (.ref f14)))
    (l14 : K.lookup f14 = some ⟨oc14, od14, .func (PySem.W.fnOf "_law_jug" "_law_jug" (defArgs s_jug) (defBody s_jug) (defScope s_jug) .none kV14 dc14 pm14 an14 cd14 ct14), sl14⟩)
    (c14 : PySem.W.codeIn K cd14 "_law_jug" = true)
    (k14 : PySem.W.keepIn K (.ref f14) = true)
    (a15 : PySem.W.nsIn K mainGlobals "_law_dip" = some (some (.ref f15)))
    (l15 : K.lookup f15 = some ⟨oc15, od15, .func (PySem.W.fnOf "_law_dip" "_law_dip" (defArgs s_dip) (defBody s_dip) (defScope s_dip) .none kV15 dc15 pm15 an15 cd15 ct15), sl15⟩)
    (c15 : PySem.W.codeIn K cd15 "_law_dip" = true)
    (k15 : PySem.W.keepIn K (.ref f15) = true)
    (a16 : PySem.W.nsIn K mainGlobals "_law_words" = some (some (.ref f16)))
    (l16 : K.lookup f16 = some ⟨oc16, od16, .func (PySem.W.fnOf "_law_words" "_law_words" (defArgs s_words) (defBody s_words) (defScope s_words) .none kV16 dc16 pm16 an16 cd16 ct16), sl16⟩)
    (c16 : PySem.W.codeIn K cd16 "_law_words" = true)
    (k16 : PySem.W.keepIn K (.ref f16) = true)
    (a17 : PySem.W.nsIn K mainGlobals "_law_picked" = some (some (.ref f17)))
    (l17 : K.lookup f17 = some ⟨oc17, od17, .func (PySem.W.fnOf "_law_picked" "_law_picked" (defArgs s_picked) (defBody s_picked) (defScope s_picked) .none kV17 dc17 pm17 an17 cd17 ct17), sl17⟩)
    (c17 : PySem.W.codeIn K cd17 "_law_picked" = true)
    (k17 : PySem.W.keepIn K (.ref f17) = true)
    (a18 : PySem.W.nsIn K mainGlobals "_law_teams" = some (some (.ref f18)))
    (l18 : K.lookup f18 = some ⟨oc18, od18, .func (PySem.W.fnOf "_law_teams" "_law_teams" (defArgs s_teams) (defBody s_teams) (defScope s_teams) .none kV18 dc18 pm18 an18 cd18 ct18), sl18⟩)
    (c18 : PySem.W.codeIn K cd18 "_law_teams" = true)
    (k18 : PySem.W.keepIn K (.ref f18) = true)
    (a19 : PySem.W.nsIn K mainGlobals "_law_frozen" = some (some (.ref f19)))
    (l19 : K.lookup f19 = some ⟨oc19, od19, .func (PySem.W.fnOf "_law_frozen" "_law_frozen" (defArgs s_frozen) (defBody s_frozen) (defScope s_frozen) .none kV19 dc19 pm19 an19 cd19 ct19), sl19⟩)
    (c19 : PySem.W.codeIn K cd19 "_law_frozen" = true)
    (k19 : PySem.W.keepIn K (.ref f19) = true)
    (a20 : PySem.W.nsIn K mainGlobals "_law_lived" = some (some (.ref f20)))
    (l20 : K.lookup f20 = some ⟨oc20, od20, .func (PySem.W.fnOf "_law_lived" "_law_lived" (defArgs s_lived) (defBody s_lived) (defScope s_lived) .none kV20 dc20 pm20 an20 cd20 ct20), sl20⟩)
    (c20 : PySem.W.codeIn K cd20 "_law_lived" = true)
    (k20 : PySem.W.keepIn K (.ref f20) = true)
    (a21 : PySem.W.nsIn K mainGlobals "_law_things" = some (some (.ref f21)))
    (l21 : K.lookup f21 = some ⟨oc21, od21, .func (PySem.W.fnOf "_law_things" "_law_things" (defArgs s_things) (defBody s_things) (defScope s_things) .none kV21 dc21 pm21 an21 cd21 ct21), sl21⟩)
    (c21 : PySem.W.codeIn K cd21 "_law_things" = true)
    (k21 : PySem.W.keepIn K (.ref f21) = true)
    (a22 : PySem.W.nsIn K mainGlobals "_law_chosen" = some (some (.ref f22)))
    (l22 : K.lookup f22 = some ⟨oc22, od22, .func (PySem.W.fnOf "_law_chosen" "_law_chosen" (defArgs s_chosen) (defBody s_chosen) (defScope s_chosen) .none kV22 dc22 pm22 an22 cd22 ct22), sl22⟩)
    (c22 : PySem.W.codeIn K cd22 "_law_chosen" = true)
    (k22 : PySem.W.keepIn K (.ref f22) = true)
    (a23 : PySem.W.nsIn K mainGlobals "_law_right" = some (some (.ref f23)))
    (l23 : K.lookup f23 = some ⟨oc23, od23, .func (PySem.W.fnOf "_law_right" "_law_right" (defArgs s_right) (defBody s_right) (defScope s_right) .none kV23 dc23 pm23 an23 cd23 ct23), sl23⟩)
    (c23 : PySem.W.codeIn K cd23 "_law_right" = true)
    (k23 : PySem.W.keepIn K (.ref f23) = true)
    (a24 : PySem.W.nsIn K mainGlobals "law" = some (some (.ref f24)))
    (l24 : K.lookup f24 = some ⟨oc24, od24, .func (PySem.W.fnOf "law" "law" (defArgs s_law) (defBody s_law) (defScope s_law) .none kV24 dc24 pm24 an24 cd24 ct24), sl24⟩)
    (c24 : PySem.W.codeIn K cd24 "law" = true)
    (k24 : PySem.W.keepIn K (.ref f24) = true)
    (n_any : PySem.W.nsIn K mainGlobals "any" = some none)
    (n_len : PySem.W.nsIn K mainGlobals "len" = some none)
    (n_list : PySem.W.nsIn K mainGlobals "list" = some none)
    (n_max : PySem.W.nsIn K mainGlobals "max" = some none)
    (n_min : PySem.W.nsIn K mainGlobals "min" = some none)
    (n_range : PySem.W.nsIn K mainGlobals "range" = some none)
    (n_set : PySem.W.nsIn K mainGlobals "set" = some none)
    (n_sorted : PySem.W.nsIn K mainGlobals "sorted" = some none)
    {oT : Obj} {tkT : Tok} {nT : Nat} (lT : K.lookup dT = some oT) (oTd : oT.data = .seq #[.str "" tkT] nT)
    (ts : TabsOf q K h)
    (rt_is_barred : ((recsOf q).any fun e => e.name == ("is_barred" : Str)) = true)
    (ti_is_barred : PySem.W.tabIn K "is_barred" = some (kb, pb))
    (tz_is_barred : K.lookup pb = none)
    (te_is_barred : cd3 = .ref kb) :
    LawGT l w K CX0 9 63 "script" mg fa h := by
  have e := hfa.symm.trans (PySem.W.mg_of X G a24)
  cases e
  have F0 : FunD K "bar_of" "bar_of" (defArgs s_bar_of) (defBody s_bar_of) (defScope s_bar_of) [.str ""] [] f0 (PySem.W.fnOf "bar_of" "bar_of" (defArgs s_bar_of) (defBody s_bar_of) (defScope s_bar_of) (.ref dT) kV0 dc0 pm0 an0 cd0 ct0) := ⟨⟨oc0, od0, .ref dT, kV0, dc0, pm0, an0, cd0, ct0, sl0, rfl, l0, c0, .inr ⟨by simp, dT, oT, [.str "" tkT], nT, rfl, lT, oTd, .cons ⟨tkT, rfl⟩ .nil⟩, .inl rfl⟩, k0⟩
  have F1 := fun_mk (st := s_bars_of) l1 c1 k1
  have F2 := fun_mk (st := s_hearers) l2 c2 k2
  have F3 := fun_mk (st := s_is_barred) l3 c3 k3
  have F4 := fun_mk (st := s_free_of) l4 c4 k4
  have F5 := fun_mk (st := s_left_of) l5 c5 k5
  have F6 := fun_mk (st := s_keepers_of) l6 c6 k6
  have F7 := fun_mk (st := s_p_things) l7 c7 k7
  have F8 := fun_mk (st := s_barred) l8 c8 k8
  have F9 := fun_mk (st := s_stuck) l9 c9 k9
  have F10 := fun_mk (st := s_need_order) l10 c10 k10
  have F11 := fun_mk (st := s_can_have) l11 c11 k11
  have F12 := fun_mk (st := s_newest_first) l12 c12 k12
  have F13 := fun_mk (st := s_order_of) l13 c13 k13
  have F14 := fun_mk (st := s_jug) l14 c14 k14
  have F15 := fun_mk (st := s_dip) l15 c15 k15
  have F16 := fun_mk (st := s_words) l16 c16 k16
  have F17 := fun_mk (st := s_picked) l17 c17 k17
  have F18 := fun_mk (st := s_teams) l18 c18 k18
  have F19 := fun_mk (st := s_frozen) l19 c19 k19
  have F20 := fun_mk (st := s_lived) l20 c20 k20
  have F21 := fun_mk (st := s_things) l21 c21 k21
  have F22 := fun_mk (st := s_chosen) l22 c22 k22
  have F23 := fun_mk (st := s_right) l23 c23 k23
  have F24 := fun_mk (st := s_law) l24 c24 k24
  let A : Ad := { f_bar_of := f0, d_bar_of := PySem.W.fnOf "bar_of" "bar_of" (defArgs s_bar_of) (defBody s_bar_of) (defScope s_bar_of) (.ref dT) kV0 dc0 pm0 an0 cd0 ct0, f_bars_of := f1, d_bars_of := PySem.W.fnOf "bars_of" "bars_of" (defArgs s_bars_of) (defBody s_bars_of) (defScope s_bars_of) .none kV1 dc1 pm1 an1 cd1 ct1, f_hearers := f2, d_hearers := PySem.W.fnOf "hearers" "hearers" (defArgs s_hearers) (defBody s_hearers) (defScope s_hearers) .none kV2 dc2 pm2 an2 cd2 ct2, f_is_barred := f3, d_is_barred := PySem.W.fnOf "is_barred" "is_barred" (defArgs s_is_barred) (defBody s_is_barred) (defScope s_is_barred) .none kV3 dc3 pm3 an3 cd3 ct3, f_free_of := f4, d_free_of := PySem.W.fnOf "free_of" "free_of" (defArgs s_free_of) (defBody s_free_of) (defScope s_free_of) .none kV4 dc4 pm4 an4 cd4 ct4, f_left_of := f5, d_left_of := PySem.W.fnOf "left_of" "left_of" (defArgs s_left_of) (defBody s_left_of) (defScope s_left_of) .none kV5 dc5 pm5 an5 cd5 ct5, f_keepers_of := f6, d_keepers_of := PySem.W.fnOf "keepers_of" "keepers_of" (defArgs s_keepers_of) (defBody s_keepers_of) (defScope s_keepers_of) .none kV6 dc6 pm6 an6 cd6 ct6, f_p_things := f7, d_p_things := PySem.W.fnOf "things" "things" (defArgs s_p_things) (defBody s_p_things) (defScope s_p_things) .none kV7 dc7 pm7 an7 cd7 ct7, f_barred := f8, d_barred := PySem.W.fnOf "barred" "barred" (defArgs s_barred) (defBody s_barred) (defScope s_barred) .none kV8 dc8 pm8 an8 cd8 ct8, f_stuck := f9, d_stuck := PySem.W.fnOf "stuck" "stuck" (defArgs s_stuck) (defBody s_stuck) (defScope s_stuck) .none kV9 dc9 pm9 an9 cd9 ct9, f_need_order := f10, d_need_order := PySem.W.fnOf "need_order" "need_order" (defArgs s_need_order) (defBody s_need_order) (defScope s_need_order) .none kV10 dc10 pm10 an10 cd10 ct10, f_can_have := f11, d_can_have := PySem.W.fnOf "can_have" "can_have" (defArgs s_can_have) (defBody s_can_have) (defScope s_can_have) .none kV11 dc11 pm11 an11 cd11 ct11, f_newest_first := f12, d_newest_first := PySem.W.fnOf "newest_first" "newest_first" (defArgs s_newest_first) (defBody s_newest_first) (defScope s_newest_first) .none kV12 dc12 pm12 an12 cd12 ct12, f_order_of := f13, d_order_of := PySem.W.fnOf "order_of" "order_of" (defArgs s_order_of) (defBody s_order_of) (defScope s_order_of) .none kV13 dc13 pm13 an13 cd13 ct13, f_jug := f14, d_jug := PySem.W.fnOf "_law_jug" "_law_jug" (defArgs s_jug) (defBody s_jug) (defScope s_jug) .none kV14 dc14 pm14 an14 cd14 ct14, f_dip := f15, d_dip := PySem.W.fnOf "_law_dip" "_law_dip" (defArgs s_dip) (defBody s_dip) (defScope s_dip) .none kV15 dc15 pm15 an15 cd15 ct15, f_words := f16, d_words := PySem.W.fnOf "_law_words" "_law_words" (defArgs s_words) (defBody s_words) (defScope s_words) .none kV16 dc16 pm16 an16 cd16 ct16, f_picked := f17, d_picked := PySem.W.fnOf "_law_picked" "_law_picked" (defArgs s_picked) (defBody s_picked) (defScope s_picked) .none kV17 dc17 pm17 an17 cd17 ct17, f_teams := f18, d_teams := PySem.W.fnOf "_law_teams" "_law_teams" (defArgs s_teams) (defBody s_teams) (defScope s_teams) .none kV18 dc18 pm18 an18 cd18 ct18, f_frozen := f19, d_frozen := PySem.W.fnOf "_law_frozen" "_law_frozen" (defArgs s_frozen) (defBody s_frozen) (defScope s_frozen) .none kV19 dc19 pm19 an19 cd19 ct19, f_lived := f20, d_lived := PySem.W.fnOf "_law_lived" "_law_lived" (defArgs s_lived) (defBody s_lived) (defScope s_lived) .none kV20 dc20 pm20 an20 cd20 ct20, f_things := f21, d_things := PySem.W.fnOf "_law_things" "_law_things" (defArgs s_things) (defBody s_things) (defScope s_things) .none kV21 dc21 pm21 an21 cd21 ct21, f_chosen := f22, d_chosen := PySem.W.fnOf "_law_chosen" "_law_chosen" (defArgs s_chosen) (defBody s_chosen) (defScope s_chosen) .none kV22 dc22 pm22 an22 cd22 ct22, f_right := f23, d_right := PySem.W.fnOf "_law_right" "_law_right" (defArgs s_right) (defBody s_right) (defScope s_right) .none kV23 dc23 pm23 an23 cd23 ct23 }
  have T : Txt K mg A :=
    { F_bar_of := F0, g_bar_of := PySem.W.mg_of X G a0, F_bars_of := F1, g_bars_of := PySem.W.mg_of X G a1, b_bars_of := F1.binds (ps := P_bars_of) fun _ _ _ _ _ _ us hl => match us, hl with | [_, _], _ => rfl, F_hearers := F2, g_hearers := PySem.W.mg_of X G a2, b_hearers := F2.binds (ps := P_hearers) fun _ _ _ _ _ _ us hl => match us, hl with | [_, _], _ => rfl, F_is_barred := F3, g_is_barred := PySem.W.mg_of X G a3, b_is_barred := F3.binds (ps := P_is_barred) fun _ _ _ _ _ _ us hl => match us, hl with | [_, _], _ => rfl, F_free_of := F4, g_free_of := PySem.W.mg_of X G a4, b_free_of := F4.binds (ps := P_free_of) fun _ _ _ _ _ _ us hl => match us, hl with | [_, _, _], _ => rfl, F_left_of := F5, g_left_of := PySem.W.mg_of X G a5, b_left_of := F5.binds (ps := P_left_of) fun _ _ _ _ _ _ us hl => match us, hl with | [_, _, _], _ => rfl, F_keepers_of := F6, g_keepers_of := PySem.W.mg_of X G a6, b_keepers_of := F6.binds (ps := P_keepers_of) fun _ _ _ _ _ _ us hl => match us, hl with | [_], _ => rfl, F_p_things := F7, g_p_things := PySem.W.mg_of X G a7, b_p_things := F7.binds (ps := P_p_things) fun _ _ _ _ _ _ us hl => match us, hl with | [_], _ => rfl, F_barred := F8, g_barred := PySem.W.mg_of X G a8, b_barred := F8.binds (ps := P_barred) fun _ _ _ _ _ _ us hl => match us, hl with | [_, _, _], _ => rfl, F_stuck := F9, g_stuck := PySem.W.mg_of X G a9, b_stuck := F9.binds (ps := P_stuck) fun _ _ _ _ _ _ us hl => match us, hl with | [_], _ => rfl, F_need_order := F10, g_need_order := PySem.W.mg_of X G a10, b_need_order := F10.binds (ps := P_need_order) fun _ _ _ _ _ _ us hl => match us, hl with | [_], _ => rfl, F_can_have := F11, g_can_have := PySem.W.mg_of X G a11, b_can_have := F11.binds (ps := P_can_have) fun _ _ _ _ _ _ us hl => match us, hl with | [_, _], _ => rfl, F_newest_first := F12, g_newest_first := PySem.W.mg_of X G a12, b_newest_first := F12.binds (ps := P_newest_first) fun _ _ _ _ _ _ us hl => match us, hl with | [_, _], _ => rfl, F_order_of := F13, g_order_of := PySem.W.mg_of X G a13, b_order_of := F13.binds (ps := P_order_of) fun _ _ _ _ _ _ us hl => match us, hl with | [_], _ => rfl, F_jug := F14, g_jug := PySem.W.mg_of X G a14, b_jug := F14.binds (ps := P_jug) fun _ _ _ _ _ _ us hl => match us, hl with | [_, _], _ => rfl, F_dip := F15, g_dip := PySem.W.mg_of X G a15, b_dip := F15.binds (ps := P_dip) fun _ _ _ _ _ _ us hl => match us, hl with | [_, _], _ => rfl, F_words := F16, g_words := PySem.W.mg_of X G a16, b_words := F16.binds (ps := P_words) fun _ _ _ _ _ _ us hl => match us, hl with | [_, _], _ => rfl, F_picked := F17, g_picked := PySem.W.mg_of X G a17, b_picked := F17.binds (ps := P_picked) fun _ _ _ _ _ _ us hl => match us, hl with | [_, _, _], _ => rfl, F_teams := F18, g_teams := PySem.W.mg_of X G a18, b_teams := F18.binds (ps := P_teams) fun _ _ _ _ _ _ us hl => match us, hl with | [_, _, _], _ => rfl, F_frozen := F19, g_frozen := PySem.W.mg_of X G a19, b_frozen := F19.binds (ps := P_frozen) fun _ _ _ _ _ _ us hl => match us, hl with | [_, _], _ => rfl, F_lived := F20, g_lived := PySem.W.mg_of X G a20, b_lived := F20.binds (ps := P_lived) fun _ _ _ _ _ _ us hl => match us, hl with | [_, _, _, _], _ => rfl, F_things := F21, g_things := PySem.W.mg_of X G a21, b_things := F21.binds (ps := P_things) fun _ _ _ _ _ _ us hl => match us, hl with | [_], _ => rfl, F_chosen := F22, g_chosen := PySem.W.mg_of X G a22, b_chosen := F22.binds (ps := P_chosen) fun _ _ _ _ _ _ us hl => match us, hl with | [_, _, _], _ => rfl, F_right := F23, g_right := PySem.W.mg_of X G a23, b_right := F23.binds (ps := P_right) fun _ _ _ _ _ _ us hl => match us, hl with | [_, _], _ => rfl, n_any := PySem.W.mg_none_of X G n_any, n_len := PySem.W.mg_none_of X G n_len, n_list := PySem.W.mg_none_of X G n_list, n_max := PySem.W.mg_none_of X G n_max, n_min := PySem.W.mg_none_of X G n_min, n_range := PySem.W.mg_none_of X G n_range, n_set := PySem.W.mg_none_of X G n_set, n_sorted := PySem.W.mg_none_of X G n_sorted }
  let C : Cd := { kb := kb, pb := pb }
  subst te_is_barred
  refine ⟨PySem.W.fnOf "law" "law" (defArgs s_law) (defBody s_law) (defScope s_law) .none kV24 dc24 pm24 an24 cd24 ct24, [(kb, pb)], spLaw K C, ?_, fun s v => .of_eq rfl, ?_, ?_⟩
  · intro t ht
    simp only [List.mem_cons, List.not_mem_nil, or_false] at ht
    rw [ht]
    · exact ⟨ts _ _ _ rt_is_barred ti_is_barred, tz_is_barred⟩
  · intro H a ns hl tg sq
    refine ⟨a, ns, rfl, sq, hl, fun p hp => ?_, fun _ => rfl⟩
    simp only [Cd.tabs, List.mem_cons, List.not_mem_nil, or_false] at hp
    rw [hp]
    · exact tg (kb, pb) (by simp)
  · intro base _ _ tb
    have tb_is_barred := tb (kb, pb) (by simp)
    exact ok_law F24 T { is_barred := tb_is_barred, c_is_barred := rfl }
theorem walk {l : PySem.W.OpenLaw} {q : Program} {loose : List Str} {XP : (Str → Option Value) → Heap → Prop} {YP : World → Heap → Prop} {d : DefRec} {K : Params → PySem.W.Frag} (hn : l.most = some 63) (hdf : d.params.defaults = [])
    (hY : ∀ (w : World) (h : Heap), YP w h → (K w.params).In h)
    (F : ∀ (w : World) (mg : Str → Option Value) (fa : Addr) (h : Heap), (K w.params).In h → h.Ns mainGlobals mg → mg d.name = some (.ref fa) → TabsOf q (K w.params) h → LawGT l w (K w.params) CX0 9 63 "script" mg fa h) :
    PySem.W.WalkO q loose XP YP l.row.toRowW d [] (fun f vs => PySem.call f vs) :=
  walk_ofGT (n := 63) (k := 9) (x := "script") (CX := fun _ => CX0) hn (by decide) hdf ⟨rfl, by decide, by decide⟩ hY F fun _ _ _ _ _ z => z
end My
open PySem PySem.W PyProof.Rows
set_option maxRecDepth 100000 in
set_option maxHeartbeats 0 in
theorem PySem.Challenge.cw_dimkeepers_k26_whole_each_beginning_goes_holds : PySem.Challenge.rw_dimkeepers_k26_whole_each_beginning_goes.Holds := by
  w_on; o_law; k_head; (case hw => w_witness2)
  k_fill
  refine My.walk (l := PySem.Challenge.rw_dimkeepers_k26_whole_each_beginning_goes) rfl rfl (fun w h Y => PySem.W.kIn_of Y) ?F
  case F =>
    intro w mg fa h KX G hmg ts
    refine' My.all_mk KX G hmg ?a0 ?l0 ?c0 ?k0 ?a1 ?l1 ?c1 ?k1 ?a2 ?l2 ?c2 ?k2 ?a3 ?l3 ?c3 ?k3 ?a4 ?l4 ?c4 ?k4 ?a5 ?l5 ?c5 ?k5 ?a6 ?l6 ?c6 ?k6 ?a7 ?l7 ?c7 ?k7 ?a8 ?l8 ?c8 ?k8 ?a9 ?l9 ?c9 ?k9 ?a10 ?l10 ?c10 ?k10 ?a11 ?l11 ?c11 ?k11 ?a12 ?l12 ?c12 ?k12 ?a13 ?l13 ?c13 ?k13 ?a14 ?l14 ?c14 ?k14 ?a15 ?l15 ?c15 ?k15 ?a16 ?l16 ?c16 ?k16 ?a17 ?l17 ?c17 ?k17 ?a18 ?l18 ?c18 ?k18 ?a19 ?l19 ?c19 ?k19 ?a20 ?l20 ?c20 ?k20 ?a21 ?l21 ?c21 ?k21 ?a22 ?l22 ?c22 ?k22 ?a23 ?l23 ?c23 ?k23 ?a24 ?l24 ?c24 ?k24 ?n_any ?n_len ?n_list ?n_max ?n_min ?n_range ?n_set ?n_sorted ?lT ?oTd ts ?rt_is_barred ?ti_is_barred ?tz_is_barred ?te_is_barred
    (case a0 => k_is)
    (case l0 => k_is)
    (case c0 => k_is)
    (case k0 => k_is)
    (case lT => k_is)
    (case oTd => rfl)
    (case a1 => k_is)
    (case l1 => k_is)
    (case c1 => k_is)
    (case k1 => k_is)
    (case a2 => k_is)
    (case l2 => k_is)
    (case c2 => k_is)
    (case k2 => k_is)
    (case a3 => k_is)
    (case l3 => k_is)
    (case c3 => k_is)
    (case k3 => k_is)
    (case a4 => k_is)
    (case l4 => k_is)
    (case c4 => k_is)
    (case k4 => k_is)
    (case a5 => k_is)
    (case l5 => k_is)
    (case c5 => k_is)
    (case k5 => k_is)
    (case a6 => k_is)
    (case l6 => k_is)
    (case c6 => k_is)
    (case k6 => k_is)
    (case a7 => k_is)
    (case l7 => k_is)
    (case c7 => k_is)
    (case k7 => k_is)
    (case a8 => k_is)
    (case l8 => k_is)
    (case c8 => k_is)
    (case k8 => k_is)
    (case a9 => k_is)
    (case l9 => k_is)
    (case c9 => k_is)
    (case k9 => k_is)
    (case a10 => k_is)
    (case l10 => k_is)
    (case c10 => k_is)
    (case k10 => k_is)
    (case a11 => k_is)
    (case l11 => k_is)
    (case c11 => k_is)
    (case k11 => k_is)
    (case a12 => k_is)
    (case l12 => k_is)
    (case c12 => k_is)
    (case k12 => k_is)
    (case a13 => k_is)
    (case l13 => k_is)
    (case c13 => k_is)
    (case k13 => k_is)
    (case a14 => k_is)
    (case l14 => k_is)
    (case c14 => k_is)
    (case k14 => k_is)
    (case a15 => k_is)
    (case l15 => k_is)
    (case c15 => k_is)
    (case k15 => k_is)
    (case a16 => k_is)
    (case l16 => k_is)
    (case c16 => k_is)
    (case k16 => k_is)
    (case a17 => k_is)
    (case l17 => k_is)
    (case c17 => k_is)
    (case k17 => k_is)
    (case a18 => k_is)
    (case l18 => k_is)
    (case c18 => k_is)
    (case k18 => k_is)
    (case a19 => k_is)
    (case l19 => k_is)
    (case c19 => k_is)
    (case k19 => k_is)
    (case a20 => k_is)
    (case l20 => k_is)
    (case c20 => k_is)
    (case k20 => k_is)
    (case a21 => k_is)
    (case l21 => k_is)
    (case c21 => k_is)
    (case k21 => k_is)
    (case a22 => k_is)
    (case l22 => k_is)
    (case c22 => k_is)
    (case k22 => k_is)
    (case a23 => k_is)
    (case l23 => k_is)
    (case c23 => k_is)
    (case k23 => k_is)
    (case a24 => k_is)
    (case l24 => k_is)
    (case c24 => k_is)
    (case k24 => k_is)
    (case n_any => k_is)
    (case n_len => k_is)
    (case n_list => k_is)
    (case n_max => k_is)
    (case n_min => k_is)
    (case n_range => k_is)
    (case n_set => k_is)
    (case n_sorted => k_is)
    (case rt_is_barred => decide +kernel)
    (case ti_is_barred => first | rfl | k_is)
    (case tz_is_barred => first | rfl | k_is)
    (case te_is_barred => rfl)
