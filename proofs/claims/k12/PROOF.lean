import PyProof.Rows.All
import Wide.All
import OpenK.AllK
import Wide.FinOn
import HandS.Base
import HandS.Call
import HandS.List
import HandS.Comp
import HandS.Ends
import HandS.Iter
import HandS.Words
import HandS.WordsList
import HandS.Wide
import HandS.Conv
import PyProof.ReprRoads
import KE.GoesEnumKw
import HandS.IsInst
import HandS.Zip
import HandS.SortInts
import HandS.RaiseMore
import KE.DataEq
import HandS.Evl
import HandS.Style
import PyProof.Rows.SeqMore
import PySem.Challenge.RW_backafter_k12_shuffles_turned
set_option Elab.async false
set_option linter.all false
set_option maxRecDepth 100000
set_option maxHeartbeats 4000000
namespace Bk
open PySem PySem.Spec PyProof.Rows L2

/-! ### room, and nothing of repr on the stack -/
structure Rm (k : Nat) (A : Around) : Prop where
  rm : Room k A
  gd : A.guards = some []
theorem Rm.mono {j k : Nat} {A : Around} (r : Rm k A) (h : j ≤ k) : Rm j A := ⟨r.rm.mono h, r.gd⟩
theorem Rm.deep {k : Nat} {A : Around} (r : Rm (k + 1) A) (env : Env) : Rm k (A.deeper env) := ⟨r.rm.deeper env, r.gd⟩

/-- a def's promise where the stack holds no repr -/
structure FnG (P : Program) (w : World) (K : PySem.W.Frag) (mg : Str → Option Value) (base : Heap) (CX : CXT) (k : Nat) (f : Addr) (fd : FuncData) (ps : List Str) (sp : Sp) : Prop where
  len : ∀ vs H Q E, sp vs H Q E → vs.length = ps.length
  run : ∀ (A : Around) (out : List Env) (s : Shared) (H : Hp) (args : Args) (us : List Value) (vs : List V) (Q : VK) (E : XK), Rm k A →
    Env0 P w K mg base A out s H → BindsTo s fd args (ps.zip us) → Vals vs us → sp vs H Q E → codeAny (model P w) A (.call (.ref f) args) (CR CX out P w H s Q E) s

section
variable {P : Program} {w : World} {K : PySem.W.Frag} {mg : Str → Option Value} {base : Heap} {CX : CXT} {k : Nat} {f : Addr} {fd : FuncData} {ps : List Str} {sp : Sp}
theorem FnG.mono {j : Nat} (F : FnG P w K mg base CX j f fd ps sp) (h : j ≤ k) : FnG P w K mg base CX k f fd ps sp :=
  ⟨F.len, fun A o s H a us vs Q E r => F.run A o s H a us vs Q E (r.mono h)⟩
theorem FnG.imp {sp' : Sp} (F : FnG P w K mg base CX k f fd ps sp) (h : ∀ vs H Q E, sp' vs H Q E → sp vs H Q E) : FnG P w K mg base CX k f fd ps sp' :=
  ⟨fun vs H Q E q => F.len vs H Q E (h _ _ _ _ q), fun A o s H a us vs Q E r e b v q => F.run A o s H a us vs Q E r e b v (h _ _ _ _ q)⟩

/-- the body, for any wish about exceptions -/
theorem bodyG {x qual : Str} {st : Stmt} {N : List Str} (F : Fun K x qual st f fd) (S : FnScope N ps (defScope st)) (len : ∀ vs H Q E, sp vs H Q E → vs.length = ps.length)
    (hb : ∀ (cdv : Value) (A : Around) (out : List Env) (s : Shared) (H : Hp) (vs : List V) (Q : VK) (E : XK),
      Rm k (A.deeper (envOfC qual (defScope st) s.heap.objs.size f cdv)) → sp vs H Q E →
      ∃ t, PSs (cxOf CX P w K mg base N qual (defScope st) f cdv A out s H E) (defBody st) t ∧ t { nx := fun _ H' => Q .non H', rt := Q } (start N vs) H) :
    FnG P w K mg base CX (k + 1) f fd ps sp := by
  obtain ⟨oc, od, kV, doc, pm, an, cdv, ct, osl, rfl, lk, hcd⟩ := F.ex
  refine ⟨len, ?_⟩
  intro A out s H args us vs Q E room e0 hbd rv hsp
  have hlen := len _ _ _ _ hsp
  have inK : K.In s.heap := e0.mod.kin.keeps fun b o e => (e0.bs b o e).1
  have noL : s.heap.NoLimit := e0.mod.nolimit.keeps fun b o e => (e0.bs b o e).1
  have kinds : ∀ y ∈ ps.zip us, (defScope st).names.lookup y.1 = some .local ∨
      ((defScope st).names.lookup y.1 = some .cell ∧ ((cellsFrom (s.heap.objs.size + 1) (defScope st).names []).lookup y.1).isSome = true) := by
    intro ⟨n, v⟩ hy
    rcases S.par n (List.of_mem_zip hy).1 with q | q
    · left
      exact q
    · right
      exact ⟨q, PySem.W.cellsFrom_some _ _ _ (.inl q)⟩
  refine codeAny_call_function room.rm.depth (inK _ _ lk) rfl S.co S.gen rfl (PySem.W.codeRec_of inK hcd) (hbd _ _ _ _ ?_)
  refine wpAny_newFunctionEnv_cells S.kind kinds ?_
  intro env henv s1 x
  subst henv
  refine ⟨noL.keeps x.toInCall.keep, codeAny_func ?_⟩
  obtain ⟨t, ht, hq⟩ := hb cdv A out s H vs Q E (room.deep _) hsp
  have J0 := inv_start (CX := CX) (E := E) (f := f) (cd := cdv) S room.rm.hd e0 hlen rv x
  refine wpAny_mono (ht.run [] s1 (start N vs) H _ J0 hq) ?_ (fun _ _ hs => hs)
  intro fl s' hs
  cases fl with
  | next =>
    obtain ⟨σ', H', J, q⟩ := hs
    exact ⟨V.non, H', J.os, J.bare, J.base, J.hok, rfl, q⟩
  | ret u =>
    obtain ⟨v, σ', H', J, rr, q⟩ := hs
    exact ⟨v, H', J.os, J.bare, J.base, J.hok, rr, q⟩
  | cont =>
    obtain ⟨_, _, _, q⟩ := hs
    exact q.elim
  | brk =>
    obtain ⟨_, _, _, q⟩ := hs
    exact q.elim
/-- a def that lets no exception out -/
theorem okG {x qual : Str} {st : Stmt} {N : List Str} (F : Fun K x qual st f fd) (S : FnScope N ps (defScope st)) (len : ∀ vs H Q E, sp vs H Q E → vs.length = ps.length)
    (hb : ∀ (cdv : Value) (A : Around) (out : List Env) (s : Shared) (H : Hp) (vs : List V) (Q : VK) (E : XK),
      Rm k (A.deeper (envOfC qual (defScope st) s.heap.objs.size f cdv)) → sp vs H Q E →
      ∃ t, PSs (cxOf CX0 P w K mg base N qual (defScope st) f cdv A out s H E).nox (defBody st) t ∧ t { nx := fun _ H' => Q .non H', rt := Q } (start N vs) H) :
    FnG P w K mg base CX0 (k + 1) f fd ps sp :=
  bodyG F S len fun cdv A out s H vs Q E r q =>
    let ⟨t, h, z⟩ := hb cdv A out s H vs Q E r q
    ⟨t, h.nox, z⟩
end

/-! ### calls of such defs -/
section
variable {X : Cx} {CX : CXT} {k : Nat} {f : Addr} {fd : FuncData} {ps ks : List Str} {sp : Sp} {dvs : List V} {ds : List Value} {E : XK} {x : Str} {p pos : Pos} {e : Expr} {es : List Expr} {t tk : TA} {kws : List Keyword}
theorem endG {pins : List (Addr × Obj)} {σ : L2.St} {H : Hp} {s : Shared} {Q : VK} (I : Inv X pins σ H s) (hx : Passes CX X E) (r : Result) (s' : Shared) (h : CR CX X.stack X.prog X.w H s Q E r s') :
    (match r with | .ok (.ret u) => EP X pins σ Q u s' | .ok _ => False | .error e => X.xe e s') := by
  cases r with
  | error e => exact hx pins σ H s e s' I h
  | ok fl =>
    cases fl with
    | ret u => exact I.after h
    | _ => exact h
theorem runG {pins : List (Addr × Obj)} {σ : L2.St} {H : Hp} {s : Shared} {Q : VK} {us : List Value} {vs : List V} (F : FnG X.prog X.w X.K X.mg X.base CX k f fd ps sp) (hr : Rm k X.A) (hb : Binds X.K fd ps ds) (hd : Vals dvs ds)
    (hx : Passes CX X E) (I : Inv X pins σ H s) (r : Vals vs us) (h : sp (vs ++ dvs) H Q E) : wpAny (model X.prog X.w) X.A (call (.ref f) us) (EP X pins σ Q) X.xe s := by
  have rv := r.append hd
  have hl : (us ++ ds).length = ps.length := rv.length.symm.trans (F.len _ _ _ _ h)
  refine wpAny_call (codeAny_mono (F.run X.A X.stack s H ⟨us, []⟩ (us ++ ds) (vs ++ dvs) Q E hr I.env0 (hb s us I.kIn hl) rv h) fun r s' hq => ?_)
  have z := endG I hx r s' hq
  cases r with
  | error e => exact z
  | ok fl =>
    cases fl with
    | ret u => exact z
    | _ => exact z.elim
theorem callG (F : FnG X.prog X.w X.K X.mg X.base CX k f fd ps sp) (hr : Rm k X.A) (hg : Gl X x) (hm : X.mg x = some (.ref f)) (hk : PySem.W.keepIn X.K (.ref f) = true) (hb : Binds X.K fd ps ds) (hd : Vals dvs ds) (hx : Passes CX X E)
    (ha : PA X (e :: es) t) (hdb : (x == ("__debug__" : Str)) = false := by decide) (he : starEach (e :: es) X.env = (false, eval e X.env) :: starEach es X.env := by rfl)
    (hpl : (backTo pos (starEach es X.env)).any (·.1) = false := by rfl) : PE X (.Call (.Name x p) (e :: es) [] pos) (tCall sp dvs E t) := by
  refine ⟨fun pins s σ H Q I h => wpAny_Call_Name_kw (ld_glob I hg hm ?_ hdb)⟩
  refine PySem.W.callWith_K (h₀ := X.base) I.ok.mod.kin hk (thn (ha.run pos pins s σ H _ I h) ?_) he hpl
  intro us s1 ⟨vs, H1, I1, r, q⟩
  exact ⟨I1.kIn, runG F hr hb hd hx I1 r q⟩
theorem runGK {pins : List (Addr × Obj)} {σ : L2.St} {H : Hp} {s : Shared} {Q : VK} {us ws : List Value} {vs zs : List V} {g : List Value → List Value → List Value} {gV : List V → List V → List V}
    (F : FnG X.prog X.w X.K X.mg X.base CX k f fd ps sp) (hr : Rm k X.A) (hb : KBinds X.K fd ps ks g gV) (hx : Passes CX X E)
    (I : Inv X pins σ H s) (r : Vals vs us) (rz : Vals zs ws) (h : sp (gV vs zs) H Q E) : wpAny (model X.prog X.w) X.A (call (.ref f) us (ks.zip ws)) (EP X pins σ Q) X.xe s := by
  have rv := hb.rel r rz
  have hl : (g us ws).length = ps.length := rv.length.symm.trans (F.len _ _ _ _ h)
  refine wpAny_call (codeAny_mono (F.run X.A X.stack s H ⟨us, ks.zip ws⟩ (g us ws) (gV vs zs) Q E hr I.env0 (hb.to s us ws I.kIn hl) rv h) fun r s' hq => ?_)
  have z := endG I hx r s' hq
  cases r with
  | error e => exact z
  | ok fl =>
    cases fl with
    | ret u => exact z
    | _ => exact z.elim
end

/-! ### the end of a law -/
/-- the law's def, at the heap behind the top -/
theorem lawG {P : Program} {w : World} {K : PySem.W.Frag} {mg mb : Str → Option Value} {CX : CXT} {k : Nat} {fa a : Addr} {fd : FuncData} {x : Str} {sp : Sp} {s₁ : Shared} {vs : List Value} {ns : List Int}
    (inK : K.In s₁.heap) (hns : s₁.heap.Ns mainGlobals mg) (hb : s₁.heap.Ns builtinsNs mb) (hbb : ∀ x : Str, x ≠ "__name__" → mb x = bootBuiltins x) (hlim : s₁.heap.NoLimit) (hg : s₁.gens = #[])
    (ha : s₁.heap.get? a = some { cls := .type "list", data := .seq vs.toArray }) (hi : IntsAre vs ns) (hl : ns.length ≤ sizeLine) (hr : Rm k callerA)
    (F : ∀ base : Heap, K.In base → base.Ns mainGlobals mg → FnG P w K mg base CX k fa fd [x] sp) (hbind : ∀ (s : Shared) (u : Value), BindsTo s fd ⟨[u], []⟩ [(x, u)])
    (hsp : ∀ H : Hp, Only H → SqL K H a (ns.map V.int) → sp [.ref a] H (fun v _ => v = .bl true) fun _ _ _ => False)
    (hCX : ∀ H e s', CX [] H s₁ (fun _ _ _ => False) e s' → False) :
    codeAny (model P w) callerA (.call (.ref fa) ⟨[.ref a], []⟩) (fun r s' => r = .ok (.ret (.bool true)) ∧ OldK s₁.heap s'.heap ∧ s'.os = s₁.os ∧ AllBare s'.gens) s₁ := by
  have rv := vals_ints hi
  have go : ∀ H : Hp, Only H → SqL K H a (ns.map V.int) → HOk P w H s₁.heap → (∀ b, H b ≠ none → b = a) → (H a ≠ none → K.lookup a = none) →
      codeAny (model P w) callerA (.call (.ref fa) ⟨[.ref a], []⟩) (fun r s' => r = .ok (.ret (.bool true)) ∧ OldK s₁.heap s'.heap ∧ s'.os = s₁.os ∧ AllBare s'.gens) s₁ := by
    intro H hO hS hok only hK
    have nsd : ∀ {b : Addr} {o : Obj} {es : Array DictEntry} {ep : Nat}, s₁.heap.get? b = some o → o.data = .dict es ep → H b = none := by
      intro b o es ep e d
      cases q : H b with
      | none => rfl
      | some u =>
        obtain rfl : b = a := only b (by simp [q])
        rw [ha] at e
        cases e
        exact nomatch (show Data.seq vs.toArray _ = Data.dict es ep from d)
    have nsH : ∀ {b : Addr} {m : Str → Option Value}, s₁.heap.Ns b m → (hidT s₁.heap H).Ns b m := by
      intro b m ⟨o, es, ep, e, d, r⟩
      exact ⟨o, es, ep, hidT_get e (nsd e d), d, r⟩
    have inH : K.In (hidT s₁.heap H) := by
      intro b o e
      refine hidT_get (inK b o e) ?_
      cases q : H b with
      | none => rfl
      | some u =>
        obtain rfl : b = a := only b (by simp [q])
        rw [hK (by simp [q])] at e
        cases e
    have md : Mod K mg (hidT s₁.heap H) := ⟨inH, nsH hns, ⟨mb, nsH hb, hbb⟩, let ⟨mc, h1, h2⟩ := hlim; ⟨mc, nsH h1, h2⟩⟩
    have e0 : Env0 P w K mg (hidT s₁.heap H) callerA [] s₁ H :=
      ⟨rfl, md, fun b o e => of_hidT e, Nat.le_of_eq (hidT_size _ _), trivial, fun b hb => (List.not_mem_nil hb).elim, hok, .of_eq hg⟩
    refine codeAny_mono ((F _ inH (nsH hns)).run callerA [] s₁ H ⟨[.ref a], []⟩ [.ref a] [.ref a] _ _ hr e0 (hbind s₁ (.ref a)) (.cons rfl .nil) (hsp H hO hS)) ?_
    intro r s' h
    cases r with
    | error e => exact (hCX H e s' h).elim
    | ok fl =>
      cases fl with
      | ret u =>
        obtain ⟨v, H', os, bare, un, hok', r', q⟩ := h
        obtain rfl : v = .bl true := q
        obtain rfl : u = Value.bool true := r'
        refine ⟨rfl, OldK.of_keep ?_, os, bare⟩
        intro b o e
        cases q : H b with
        | none => exact un.keep b o e q (fun z => (List.not_mem_nil z).elim) (fun z => (List.not_mem_nil z).elim)
        | some u =>
          rcases hO b with z | ⟨ob, xs, z⟩
          · rw [q] at z
            cases z
          · obtain ⟨e1, _⟩ := hok b _ z
            obtain ⟨e2, _⟩ := hok' b _ (un.frzs b ob _ z)
            rw [e] at e1
            cases e1
            exact e2
      | _ => exact h.elim
  cases hk : K.lookup a with
  | some o =>
    have e := inK a o hk
    rw [ha] at e
    cases e
    refine go (fun _ => none) (fun _ => .inl rfl) (.inr ⟨_, vs.toArray, _, hk, rfl, rfl, rfl, ?_, by simpa using rv⟩) (fun b u z => nomatch z) (fun b z => (z rfl).elim) fun z => (z rfl).elim
    rw [List.size_toArray, hi.length]
    exact hl
  | none =>
    refine go (fun b => if b = a then some (.frz { cls := .type "list", data := .seq vs.toArray } (.lst (ns.map V.int))) else none) ?_ (.inl (.inr ⟨{ cls := .type "list", data := .seq vs.toArray }, if_pos rfl⟩)) ?_ ?_ fun _ => hk
    · intro b
      by_cases c : b = a
      · exact .inr ⟨_, _, if_pos c⟩
      · exact .inl (if_neg c)
    · intro b u z
      dsimp only at z
      by_cases c : b = a
      · rw [if_pos c] at z
        cases z
        subst c
        refine ⟨ha, ?_, vs, _, rv, ha⟩
        rw [List.length_map]
        exact hl
      · rw [if_neg c] at z
        cases z
    · intro b z
      by_cases c : b = a
      · exact c
      · exact (z (if_neg c)).elim

theorem walkG {l : PySem.W.OpenLaw} {n k : Nat} {q : Program} {loose : List Str} {XP : (Str → Option Value) → Heap → Prop} {YP : World → Heap → Prop} {d : DefRec} {K : Params → PySem.W.Frag} {CX : World → CXT} {sp : World → Sp} {x : Str}
    (hn : l.most = some n) (hn2 : n ≤ sizeLine) (hdf : d.params.defaults = []) (hr : Rm k callerA)
    (hY : ∀ (w : World) (h : Heap), YP w h → (K w.params).In h)
    (F : ∀ (w : World) (mg : Str → Option Value) (fa : Addr) (h : Heap), (K w.params).In h → h.Ns mainGlobals mg → mg d.name = some (.ref fa) →
      ∃ fd : FuncData, (∀ (s : Shared) (u : Value), BindsTo s fd ⟨[u], []⟩ [(x, u)]) ∧
        ∀ base : Heap, (K w.params).In base → base.Ns mainGlobals mg → FnG l.prog w (K w.params) mg base (CX w) k fa fd [x] (sp w))
    (hsp : ∀ (w : World) (H : Hp) (a : Addr) (ns : List Int), ns.length ≤ n → Only H → SqL (K w.params) H a (ns.map V.int) → sp w [.ref a] H (fun v _ => v = .bl true) fun _ _ _ => False)
    (hCX : ∀ (w : World) (H : Hp) (s : Shared) (e : Value) (s' : Shared), CX w [] H s (fun _ _ _ => False) e s' → False) :
    PySem.W.WalkO q loose XP YP l.row.toRowW d [] (fun f vs => PySem.call f vs) := by
  refine Att.attach_call hn hdf ?_
  intro w s₀ s₁ mg mb fa o pm cd doc a vs ns G Y ho hd hcd hmg hobj hints hlen hg
  have inK := hY w _ Y
  obtain ⟨fd, hb, hF⟩ := F w mg fa _ inK G.T.g hmg
  exact lawG inK G.T.g G.T.b G.T.builtins G.T.nolimit hg hobj hints (Nat.le_trans hlen hn2) hr hF hb (fun H hO hS => hsp w H a ns hlen hO hS) fun H e s' => hCX w H s₁ e s'

/-! ### repr of data -/
def rRepr (K : PySem.W.Frag) : List V → Hp → VK → Prop := fun xs H Q => ∃ (a : Addr) (d : PyData), xs = [.ref a] ∧ Dp K H (.ref a) d ∧ d.showable = true ∧ d.hasDict = false ∧ d.depth ≤ 60 ∧ d.shown.length ≤ sizeLine ∧ Q (.str d.shown) H
theorem call_repr {X : Cx} (hg : X.A.guards = some []) (hu : X.A.units + 64 < cLine) : CallR X (.builtin "repr") (rRepr X.K) := by
  intro pins s σ H xs us Q I r h
  obtain ⟨a, d, rfl, hd, hs, hn, hp, hz, q⟩ := h
  obtain ⟨u, rfl, ru⟩ := vals1 r
  cases (show u = Value.ref a from ru)
  obtain ⟨as, rd⟩ := Dp.reads I d (.ref a) (.ref a) hd rfl
  refine repr_of_reads' rd hs (fun z => by rw [hn] at z; cases z) hg (by omega) (fun _ _ e => e) (fun h' u tk hk => ?_) hz
  exact ⟨.str d.shown, H, I.kept hk, ⟨u, rfl⟩, q⟩
end Bk
namespace Bk
open PySem PySem.Spec PyProof.Rows L2

/-! ### enumerate(list, start=k) -/
theorem callWith_clsKw {M : Model} {A : Around} {E : Value → Shared → Prop} {s : Shared} {env : Env} {pos : Pos} {T : String} {e : Expr} {rest : List Expr} {kws : List Keyword} {Q : Value → Shared → Prop}
    (h : wpAny M A (spliced (backTo pos (starEach (e :: rest) env))) (fun vs s₁ => wpAny M A (evalAll ((backToKw pos (keywordEach kws env)).map (·.2)))
      (fun ks s₂ => wpAny M A (call (.type T) vs (((backToKw pos (keywordEach kws env)).filterMap (·.1)).zip ks)) Q E s₂) E s₁) E s)
    (hall : (backToKw pos (keywordEach kws env)).all (·.1.isSome) = true)
    (hplain : (backTo pos (starEach (e :: rest) env)).any (·.1) = false) (hkw : (backToKw pos (keywordEach kws env)).any (·.1.isNone) = false)
    (he : backTo pos (starEach (e :: rest) env) = (false, eval e env) :: backTo pos (starEach rest env)) :
    wpAny M A (callWith pos (.type T) [] (backTo pos (starEach (e :: rest) env)) (backToKw pos (keywordEach kws env))) Q E s := by
  have h2 : wpAny M A (evalArgs (.type T) true (backTo pos (starEach (e :: rest) env)) (backToKw pos (keywordEach kws env))) (fun a s₁ => wpAny M A (call (.type T) ([] ++ a.pos) a.kw) Q E s₁) E s := by
    rw [he] at h ⊢
    exact PyProof.Rows.evalArgs_kwB hall h
  unfold callWith
  refine wpAny_bind (wpAny_holding (wpAny_mono h2 (fun a s₁ h₁ => wpAny_bind (wpAny_standAt ?_)) fun _ _ x => x))
  simp only [hplain, hkw, Bool.or_false]
  refine wpAny_bind (wpAny_pure ?_)
  exact wpAny_bind (wpAny_mono h₁ (fun r s₂ hr => wpAny_bind (wpAny_holding (wpAny_point (wpAny_pure hr)))) fun _ _ x => x)

/-- the list at a, each item in a new pair, counted from c -/
def Itn (K : PySem.W.Frag) (a : Addr) (c : Int) : It :=
  ⟨fun i H => ∃ (xs : List V) (x : V), SqL K H a xs ∧ xs[i]? = some x,
   fun i H v H' => ∃ T x, v = .ref T ∧ H T = none ∧ H' = upd H T (.tup [.int (c + (i : Nat)), x]) ∧ ∀ xs, SqL K H a xs → xs[i]? = some x,
   fun i H => ∃ xs : List V, SqL K H a xs ∧ i = xs.length⟩

theorem turn_enumC {P : Program} {w : World} {K : PySem.W.Frag} {elts : List Expr} {kk : Nat} {tpos : Pos} (a e it : Addr) (c : Int) :
    Turn P w K (.Tuple elts kk tpos) (Itn K a c) [e, it] e (fun i h => (∃ old, IsEnum h e it (c + ((i : Nat) : Int)) old) ∧ h.IsListIter it a i ∧ e ≠ it) where
  mem := List.mem_cons_self
  obj := by
    intro i h st b hb
    obtain ⟨⟨old, he⟩, ⟨o, ho, hc, hd⟩, _⟩ := st
    rcases (show b = e ∨ b = it by simpa using hb) with z | z
    · rw [z]
      exact ⟨_, he, fun v q => nomatch q⟩
    · rw [z]
      exact ⟨o, ho, fun v q => by rw [hd] at q; cases q⟩
  keep := by
    intro i h h' st k
    obtain ⟨⟨old, he⟩, hi, hne⟩ := st
    exact ⟨⟨old, k e (by simp) _ he⟩, hi.at fun o q => k it (by simp) o q, hne⟩
  item := by
    intro X hP hw hK hc i pins s σ H E I hf st hg
    subst hP hw hK
    obtain ⟨⟨old, he⟩, hit, hne⟩ := st
    obtain ⟨xs, x, hq, hx⟩ := hg
    obtain ⟨its, rv, p, hz⟩ := I.list hq
    obtain ⟨u, hu, ru⟩ := rv.get hx
    have hel : e < s.heap.objs.size := Heap.lt_size he
    have hil : it < s.heap.objs.size := by
      obtain ⟨_, q, _⟩ := hit
      exact Heap.lt_size q
    have hai : a ≠ it := by
      intro z
      obtain ⟨o1, q1, c1, d1⟩ := hit
      obtain ⟨o2, n2, q2, c2, _⟩ := p
      rw [z, q1] at q2
      cases q2
      rw [c1] at c2
      exact absurd c2 (by decide)
    have hae : e ≠ a := by
      intro z
      obtain ⟨o2, n2, q2, c2, _⟩ := p
      have q3 : s.heap.get? a = _ := z ▸ he
      rw [q3] at q2
      cases q2
      exact absurd (show Value.type "enumerate" = Value.type "list" from c2) (by decide)
    have hi : i < its.toArray.size := by
      have := (List.getElem?_eq_some_iff.mp hu).1
      simpa using this
    refine wpAny_pyNext_enum_itemC (Draws.list (by show X.A.handled = none; exact I.ok.hd hc) it a hai its.toArray) he ⟨hit, p.isList⟩ hi hne (by simp [hne, hae]) ?_
    intro y h' tk hy ho st' hT hsz hk
    have ey : y = u := by
      have : its.toArray[i]? = some u := by simpa using hu
      rw [this] at hy
      exact (Option.some.inj hy).symm
    subst ey
    refine ⟨_, rfl, wpAny_letOwnedTupleGo_enum (s := { s with heap := h', toks := tk + 1 }) ho ?_⟩
    intro h'' he' sb
    have hT2 : h''.get? s.heap.objs.size = some { cls := .type "tuple", data := .seq #[.int (c + (i : Nat)) tk, y] } := (sb.2 _ (Nat.ne_of_gt hel)).trans hT
    have new : ObjOk X.prog X.w (upd H s.heap.objs.size (.tup [.int (c + (i : Nat)), x])) h'' s.heap.objs.size (.tup [.int (c + (i : Nat)), x]) :=
      ⟨by show 2 ≤ sizeLine; decide, [.int (c + (i : Nat)) tk, y], .cons ⟨_, rfl⟩ (.cons ru .nil), ⟨_, hT2, rfl, _, rfl⟩⟩
    have I1 : Inv X pins σ (upd H s.heap.objs.size (.tup [.int (c + (i : Nat)), x])) { s with heap := h'', toks := tk + 1 } := by
      refine I.turnedNew (ch := [e, it]) ?_ hf (Nat.le_refl _) new
      intro b ob hb q
      exact (sb.2 b (fun z => hb (by simp [z]))).trans (hk b ob (fun z => hb (by simp [z])) (fun z => hb (by simp [z])) q)
    refine ⟨.ref s.heap.objs.size, _, I1, rfl, ⟨_, x, rfl, I.hok.fresh (Nat.le_refl _), rfl, fun ys hy => ?_⟩, ⟨⟨y, ?_⟩, st'.1.at fun o q => (sb.2 it (Ne.symm hne)).trans q, hne⟩, fun b hb => ?_⟩
    · rw [I.list_inj hy hq]
      exact hx
    · have e1 : c + ((i + 1 : Nat) : Int) = c + (i : Int) + 1 := by omega
      rw [e1]
      exact he'
    · have hb' : b < s.heap.objs.size := by
        rcases (show b = e ∨ b = it by simpa using hb) with z | z
        · exact z ▸ hel
        · exact z ▸ hil
      rw [upd_ne (Nat.ne_of_lt hb')]
      exact (hf b hb).1
  done := by
    intro X hP hw hK hc i pins s σ H E I hf st hg
    subst hP hw hK
    obtain ⟨⟨old, he⟩, hit, hne⟩ := st
    obtain ⟨xs, hq, hx⟩ := hg
    obtain ⟨its, rv, p, hz⟩ := I.list hq
    obtain ⟨f0, f1, f2, f3, f4, f5⟩ := hf it (by simp)
    have hl := rv.length
    have hai : a ≠ it := by
      intro z
      obtain ⟨o1, q1, c1, d1⟩ := hit
      obtain ⟨o2, n2, q2, c2, _⟩ := p
      rw [z, q1] at q2
      cases q2
      rw [c1] at c2
      exact absurd c2 (by decide)
    have hn : i = its.toArray.size := by
      simp
      omega
    have st : s.heap.IsListIter it a its.toArray.size ∧ s.heap.IsList a its.toArray := ⟨hn ▸ hit, p.isList⟩
    refine wpAny_pyNext_enum_endD (Draws.list (by show X.A.handled = none; exact I.ok.hd hc) it a hai its.toArray) he st ?_
    intro h' eb
    exact ⟨rfl, I.turned (t' := s.toks) (fun b o hb q => eb b o hb q) f0 f1 f3 f4 f5⟩
  self := fun A i s Q E st h => by
    obtain ⟨⟨_, he⟩, _⟩ := st
    exact wpAny_pyIter_enum he h

def iEnumC (K : PySem.W.Frag) (ta : TA) (c : Int) : TI := fun σ H R => ta σ H fun vs H1 => ∃ a xs, vs = [.ref a] ∧ SqL K H1 a xs ∧ R (Itn K a c) H1
theorem pi_enumC {X : Cx} {e : Expr} {ta : TA} {p pos tpos kpos cpos : Pos} {elts : List Expr} {kk j : Nat} {c : Int} (hg : Gl X "enumerate") (hm : X.mg "enumerate" = none) (ha : PA X [e] ta)
    (hs : starEach [e] X.env = [(false, eval e X.env)] := by rfl) (h0 : -(2 ^ 63) ≤ c := by decide) (h1 : c < 2 ^ 63 := by decide)
    (hall : (backToKw pos (keywordEach [⟨some "start", .Constant (.int c) j cpos, kpos⟩] X.env)).all (·.1.isSome) = true := by rfl)
    (hks : (backToKw pos (keywordEach [⟨some "start", .Constant (.int c) j cpos, kpos⟩] X.env)).filterMap (·.1) = [Str.ofString "start"] := by rfl)
    (hnone : (backToKw pos (keywordEach [⟨some "start", .Constant (.int c) j cpos, kpos⟩] X.env)).any (·.1.isNone) = false := by rfl)
    (hpl : (backTo pos (starEach [e] X.env)).any (·.1) = false := by rfl) :
    PI X (.Tuple elts kk tpos) (.Call (.Name "enumerate" p) [e] [⟨some "start", .Constant (.int c) j cpos, kpos⟩] pos) (iEnumC X.K ta c) := by
  refine ⟨fun pins s σ H R I h => ?_⟩
  refine wpAny_Call_Name_kw (ld_blt I hg hm boot_enumerate ?_)
  refine callWith_clsKw (thn (ha.run pos pins s σ H _ I h) fun us s1 ⟨vs, H1, I1, r1, q1⟩ => thn ((pk_cons pe_int pk_nil).run pos pins s1 σ H1 _ I1 (show tCons (tC (.int c)) tNil σ H1 (fun zs H2 => zs = [.int c] ∧ H2 = H1) from ⟨rfl, rfl⟩)) fun ws s2 ⟨zs, H2, I2, r2, e2, e3⟩ => ?_) hall hpl hnone (by rw [hs]; rfl)
  subst e2 e3
  obtain ⟨a, xs, ex, hq, q⟩ := q1
  subst ex
  rw [hks]
  obtain ⟨u, rfl, ru⟩ := vals1 r1
  obtain ⟨v, rfl, t, rfl⟩ := vals1 r2
  cases (show u = Value.ref a from ru)
  obtain ⟨its, rv, p', hz⟩ := I2.list hq
  refine enum_begins_start (begins_list a its.toArray) p'.isList h0 h1 fun h' he hit hsz hk => wpAny_pyIter_enum he ?_
  have I3 : Inv X pins σ H2 { s2 with heap := h' } := I2.kept (t' := s2.toks) hk
  refine ⟨s2.heap.objs.size + 1, [s2.heap.objs.size + 1, s2.heap.objs.size], _, _, H2, rfl, I3, turn_enumC a (s2.heap.objs.size + 1) s2.heap.objs.size c, ⟨⟨.none, ?_⟩, ⟨_, hit, rfl, rfl⟩, Nat.succ_ne_self _⟩, fun b hb => ?_, q⟩
  · rw [show c + ((0 : Nat) : Int) = c by omega]
    exact he
  · have hle : s2.heap.objs.size ≤ b := by
      rcases (show b = s2.heap.objs.size + 1 ∨ b = s2.heap.objs.size by simpa using hb) with z | z
      · rw [z]
        exact Nat.le_succ _
      · rw [z]
        exact Nat.le_refl _
    exact I2.fpOk hle (I2.hok.fresh hle)

/-! ### powers of great numbers -/
def CPowW (i j : Int) : Prop := 0 ≤ j ∧ j ≤ 64 ∧ i.natAbs < 2 ^ 1000
theorem op_powW {X : Cx} : OpR X (binaryOp .Pow) (rI CPowW fun i j => .int (i ^ j.toNat)) := opI fun i j _ _ _ _ _ hc q => by
  obtain ⟨h0, h1, h2⟩ := hc
  refine PyProof.Rows.pow_int h0 ?_ q
  have hb : Builtin.Int.intBits i ≤ 1000 := by
    unfold Builtin.Int.intBits
    split
    · omega
    · rename_i hne
      have : i.natAbs ≠ 0 := by
        intro z
        apply hne
        simp only [beq_iff_eq]
        omega
      have := (Nat.log2_lt this).mpr h2
      omega
  have : (Builtin.Int.intBits i : Int) * j ≤ 1000 * 64 := Int.mul_le_mul (by omega) h1 h0 (by omega)
  omega
end Bk
namespace Bk
open PySem PySem.Spec PyProof.Rows L2

/-! ### heaps that grow, but for one object -/
def But (a : Addr) (H H' : Hp) : Prop := ∀ b o, b ≠ a → H b = some o → H' b = some o
theorem But.refl (a : Addr) (H : Hp) : But a H H := fun _ _ _ h => h
theorem But.trans {a : Addr} {H H1 H2 : Hp} (x : But a H H1) (y : But a H1 H2) : But a H H2 := fun b o n h => y b o n (x b o n h)
theorem But.same {a : Addr} {H H1 : Hp} (x : Same H H1) : But a H H1 := fun b o _ h => x b o h
theorem But.new {a p : Addr} {H : Hp} {o : HO} (n : H p = none) : But a H (upd H p o) := fun b u _ h => by
  rw [upd_ne (ne_of_none h n)]
  exact h
theorem But.at {a : Addr} {H : Hp} {o : HO} : But a H (upd H a o) := fun b u n h => by
  rw [upd_ne n]
  exact h
/-- an object that was not there at H may change -/
theorem But.own {a p : Addr} {H H1 : Hp} {o : HO} (x : But a H H1) (n : H p = none) : But a H (upd H1 p o) := fun b u m h => by
  rw [upd_ne (ne_of_none h n)]
  exact x b u m h
theorem Same.new {p : Addr} {H : Hp} {o : HO} (n : H p = none) : Same H (upd H p o) := fun b u h => by
  rw [upd_ne (ne_of_none h n)]
  exact h
theorem Same.own {p : Addr} {H H1 : Hp} {o : HO} (x : Same H H1) (n : H p = none) : Same H (upd H1 p o) := fun b u h => by
  rw [upd_ne (ne_of_none h n)]
  exact x b u h
theorem Same.but {a : Addr} {H H1 H2 : Hp} (x : Same H H1) (n : H a = none) (y : But a H1 H2) : Same H H2 := fun b o h => y b o (ne_of_none h n) (x b o h)
theorem But.free {a b : Addr} {H H' : Hp} (x : But a H H') (n : b ≠ a) (h : H' b = none) : H b = none := by
  cases q : H b with
  | none => rfl
  | some o =>
    rw [x b o n q] at h
    cases h
theorem But.seq {K : PySem.W.Frag} {a b : Addr} {H H' : Hp} {xs : List V} (x : But a H H') (n : b ≠ a) (h : SqL K H b xs) : SqL K H' b xs := by
  rcases h with (h | ⟨o, h⟩) | h
  · exact .inl (.inl (x _ _ n h))
  · exact .inl (.inr ⟨o, x _ _ n h⟩)
  · exact .inr h
theorem But.seqT {K : PySem.W.Frag} {a b : Addr} {H H' : Hp} {xs : List V} (x : But a H H') (n : b ≠ a) (h : SqT K H b xs) : SqT K H' b xs := by
  rcases h with (h | ⟨o, h⟩) | h
  · exact .inl (.inl (x _ _ n h))
  · exact .inl (.inr ⟨o, x _ _ n h⟩)
  · exact .inr h
theorem Same.seqT {K : PySem.W.Frag} {b : Addr} {H H' : Hp} {xs : List V} (x : Same H H') (h : SqT K H b xs) : SqT K H' b xs := by
  rcases h with (h | ⟨o, h⟩) | h
  · exact .inl (.inl (x _ _ h))
  · exact .inl (.inr ⟨o, x _ _ h⟩)
  · exact .inr h

/-! ### lists of ints -/
abbrev vi (ns : List Int) : List V := ns.map V.int
abbrev di (ns : List Int) : List PyData := ns.map PyData.int
theorem vi_get {ns : List Int} {i : Nat} {x : Int} (h : ns[i]? = some x) : (vi ns)[i]? = some (.int x) := by
  rw [List.getElem?_map, h]
  rfl
theorem vi_at {ns : List Int} {i : Nat} (h : i < ns.length) : (vi ns)[i]? = some (.int ns[i]) := vi_get (List.getElem?_eq_getElem h)
theorem dpAll_ints (K : PySem.W.Frag) (H : Hp) : ∀ ns : List Int, DpAll K H (vi ns) (di ns)
  | [] => .nil
  | n :: r => .cons (.int n) (dpAll_ints K H r)
theorem dp_lst {K : PySem.W.Frag} {H : Hp} {a : Addr} {ns : List Int} (h : SqL K H a (vi ns)) : Dp K H (.ref a) (.list (di ns)) := .lst h (dpAll_ints K H ns)
theorem dp_tup {K : PySem.W.Frag} {H : Hp} {a : Addr} {ns : List Int} (h : SqT K H a (vi ns)) : Dp K H (.ref a) (.tuple (di ns)) := .tup h (dpAll_ints K H ns)
theorem canLay_ints : ∀ ns : List Int, PyData.canLayAll0 (di ns) = true
  | [] => rfl
  | n :: r => by simp [PyData.canLayAll0, PyData.canLay0, canLay_ints r]
theorem depthAll_ints : ∀ ns : List Int, PyData.depthAll (di ns) = 0
  | [] => rfl
  | n :: r => by simp [PyData.depthAll, PyData.depth, depthAll_ints r]
theorem shaped_l (ns : List Int) : SeqAt.shaped (.list (di ns)) = true := by
  simp [SeqAt.shaped, PyData.canLay0, canLay_ints, PyData.depth, depthAll_ints]
theorem shaped_t (ns : List Int) : SeqAt.shaped (.tuple (di ns)) = true := by
  simp [SeqAt.shaped, PyData.canLay0, canLay_ints, PyData.depth, depthAll_ints]
theorem eqvAll_ints : ∀ ns ms : List Int, PyData.eqvAll (di ns) (di ms) = decide (ns = ms)
  | [], [] => rfl
  | [], m :: r => by simp [PyData.eqvAll]
  | n :: r, [] => by simp [PyData.eqvAll]
  | n :: r, m :: q => by
    have ih := eqvAll_ints r q
    simp only [List.map_cons, PyData.eqvAll, PyData.eqv, ih]
    by_cases h1 : n = m
    · by_cases h2 : r = q
      · simp [h1, h2]
      · simp [h1, h2]
    · simp [h1]
theorem eqv_l (ns ms : List Int) : PyData.eqv (.list (di ns)) (.list (di ms)) = decide (ns = ms) := by
  rw [PyData.eqv]
  exact eqvAll_ints ns ms
theorem eqv_t (ns ms : List Int) : PyData.eqv (.tuple (di ns)) (.tuple (di ms)) = decide (ns = ms) := by
  rw [PyData.eqv]
  exact eqvAll_ints ns ms

/-! ### how long a text of data is -/
def wide (k : Nat) (ns : List Int) : Prop := ∀ n ∈ ns, n.natAbs.log2 < k
theorem wide.mono {j k : Nat} {ns : List Int} (h : wide j ns) (hk : j ≤ k) : wide k ns := fun n m => Nat.lt_of_lt_of_le (h n m) hk
theorem wide_lt {k : Nat} {ns : List Int} (h0 : 0 < k) (h : ∀ n ∈ ns, n.natAbs < 2 ^ k) : wide k ns := fun n m => PySem.Flt.log2_lt_of h0 (h n m)
theorem textFrom_le : ∀ (ts : List Str) (k L : Nat) (acc : Str), (∀ t ∈ ts, t.length ≤ L) → (textFrom k acc ts).length ≤ acc.length + (L + 2) * ts.length
  | [], k, L, acc, h => Nat.le_refl _
  | t :: r, k, L, acc, h => by
    have h1 := h t List.mem_cons_self
    have ih := textFrom_le r (k + 1) L (acc ++ (if k > 0 then ", " else "" : String) ++ t) fun u m => h u (List.mem_cons_of_mem _ m)
    show (textFrom (k + 1) (acc ++ (if k > 0 then ", " else "" : String) ++ t) r).length ≤ _
    refine Nat.le_trans ih ?_
    rw [strLen_append, strLen_append, List.length_cons, Nat.mul_add]
    have e : ((if k > 0 then ", " else "" : String) : Str).length ≤ 2 := by
      split
      · exact Nat.le_refl 2
      · exact Nat.zero_le 2
    omega
theorem listText_le {ts : List Str} {L : Nat} (h : ∀ t ∈ ts, t.length ≤ L) : (listText ts).length ≤ (L + 2) * ts.length + 2 := by
  unfold listText
  rw [strLen_append]
  have := textFrom_le ts 0 L "[" h
  have e1 : (("[" : String) : Str).length = 1 := rfl
  have e2 : (("]" : String) : Str).length = 1 := rfl
  omega
theorem piled_le : ∀ {ts : List Str} {L : Nat}, (∀ t ∈ ts, t.length ≤ L) → piled ts ≤ (L + 2) * ts.length
  | [], L, _ => by simp [piled]
  | t :: r, L, h => by
    have := h t List.mem_cons_self
    have ih := piled_le (ts := r) (L := L) fun u m => h u (List.mem_cons_of_mem _ m)
    rw [piled_cons, List.length_cons, Nat.mul_add]
    omega
theorem tupleText_le {ts : List Str} {L : Nat} (h : ∀ t ∈ ts, t.length ≤ L) : (tupleText ts).length ≤ (L + 2) * ts.length + 3 := by
  unfold tupleText
  rw [strLen_append, strLen_append]
  have e1 : ((("(" : String) : Str)).length = 1 := rfl
  have e3 : (((if ts.length == 1 then ",)" else ")" : String) : Str)).length ≤ 2 := by split <;> decide
  rw [e1]
  by_cases hn : ts = []
  · subst hn
    have : (Str.join ", " ([] : List Str)).length = 0 := rfl
    omega
  · have j := join_length_add ts hn
    have p := piled_le h
    omega
theorem shownAll_ints : ∀ ns : List Int, PyData.shownAll (di ns) = ns.map fun i => (toString i : Str)
  | [] => rfl
  | n :: r => by
    show PyData.shown (.int n) :: PyData.shownAll (di r) = _
    rw [shownAll_ints r, PyData.shown]
    rfl
theorem shown_le {k : Nat} {ns : List Int} (hk : 0 < k) (h : wide k ns) : ∀ t ∈ PyData.shownAll (di ns), t.length ≤ k + 1 := by
  intro t m
  rw [shownAll_ints] at m
  obtain ⟨i, hi, rfl⟩ := List.mem_map.mp m
  rw [PySem.ofString_length]
  exact int_text_length_le hk (h i hi)
theorem showable_ints : ∀ {ns : List Int}, wide 1920 ns → PyData.showableAll (di ns) = true
  | [], _ => rfl
  | n :: r, h => by
    have h1 : n.natAbs.log2 < 1920 := h n List.mem_cons_self
    have h2 := showable_ints (ns := r) fun m hm => h m (List.mem_cons_of_mem _ hm)
    simp [PyData.showableAll, PyData.showable, h1, h2]
theorem noDict_ints : ∀ ns : List Int, PyData.hasDictAll (di ns) = false
  | [] => rfl
  | n :: r => by simp [PyData.hasDictAll, PyData.hasDict, noDict_ints r]
/-- what repr asks of a list, a tuple of ints -/
theorem repr_l {K : PySem.W.Frag} {H : Hp} {a : Addr} {ns : List Int} {Q : VK} (h : SqL K H a (vi ns)) (hw : wide 1900 ns) (hl : ns.length ≤ 4000) (q : Q (.str (PyData.list (di ns)).shown) H) : rRepr K [.ref a] H Q := by
  refine ⟨a, .list (di ns), rfl, dp_lst h, ?_, ?_, ?_, ?_, q⟩
  · simp [PyData.showable, showable_ints (hw.mono (by decide))]
  · simp [PyData.hasDict, noDict_ints]
  · simp [PyData.depth, depthAll_ints]
  · rw [PyData.shown]
    have := listText_le (shown_le (by decide) hw)
    rw [shownAll_ints, List.length_map, ← shownAll_ints] at this
    rw [sizeLine_eq]
    omega
theorem repr_t {K : PySem.W.Frag} {H : Hp} {a : Addr} {ns : List Int} {Q : VK} (h : SqT K H a (vi ns)) (hw : wide 1900 ns) (hl : ns.length ≤ 4000) (q : Q (.str (PyData.tuple (di ns)).shown) H) : rRepr K [.ref a] H Q := by
  refine ⟨a, .tuple (di ns), rfl, dp_tup h, ?_, ?_, ?_, ?_, q⟩
  · simp [PyData.showable, showable_ints (hw.mono (by decide))]
  · simp [PyData.hasDict, noDict_ints]
  · simp [PyData.depth, depthAll_ints]
  · rw [PyData.shown]
    have := tupleText_le (shown_le (by decide) hw)
    rw [shownAll_ints, List.length_map, ← shownAll_ints] at this
    rw [sizeLine_eq]
    omega
end Bk
namespace Bk
open PySem PySem.Spec PyProof.Rows L2 Evl

section
variable {X : Cx} {CX : CXT} {k : Nat} {f : Addr} {fd : FuncData} {ps ks : List Str} {sp : Sp} {E : XK} {x : Str} {p pos : Pos} {tk : TA} {kws : List Keyword}
/-- f(k = v, ..) -/
theorem callGK0 {g : List Value → List Value → List Value} {gV : List V → List V → List V} (F : FnG X.prog X.w X.K X.mg X.base CX k f fd ps sp) (hr : Rm k X.A) (hg : Gl X x) (hm : X.mg x = some (.ref f)) (hk : PySem.W.keepIn X.K (.ref f) = true)
    (hb : KBinds X.K fd ps ks g gV) (hx : Passes CX X E) (hkw : PK X kws tk) (hall : (backToKw pos (keywordEach kws X.env)).all (·.1.isSome) = true := by rfl)
    (hks : (backToKw pos (keywordEach kws X.env)).filterMap (·.1) = ks := by rfl) (hdb : (x == ("__debug__" : Str)) = false := by decide)
    (hpl : ((backTo pos (starEach [] X.env)).any (·.1) || (backToKw pos (keywordEach kws X.env)).any (·.1.isNone)) = false := by rfl) :
    PE X (.Call (.Name x p) [] kws pos) (tCallK sp gV E tNil tk) := by
  refine ⟨fun pins s σ H Q I h => wpAny_Call_Name_kw (ld_glob I hg hm ?_ hdb)⟩
  refine PySem.W.callWith_KW0 (h₀ := X.base) I.ok.mod.kin hk hall (thn (hkw.run pos pins s σ H _ I h) ?_) hpl
  intro ws s2 ⟨zs, H2, I2, rz, q2⟩
  refine ⟨I2.kIn, ?_⟩
  rw [hks]
  exact runGK F hr hb hx I2 .nil rz q2
end

/-- how keywords are put into the parameters' order -/
def gK {α : Type} (na nk : Nat) (idx : List Nat) (us ws : List α) : List α := if us.length = na ∧ ws.length = nk then idx.filterMap (fun i => (us ++ ws)[i]?) else []
theorem vals_pick {xs : List V} {us : List Value} (r : Vals xs us) : ∀ idx : List Nat, Vals (idx.filterMap (fun i => xs[i]?)) (idx.filterMap (fun i => us[i]?))
  | [] => .nil
  | i :: idx => by
    have ih := vals_pick r idx
    cases g : xs[i]? with
    | none =>
      rw [List.filterMap_cons_none (by exact g), List.filterMap_cons_none (by exact r.none_of g)]
      exact ih
    | some x =>
      obtain ⟨u, hu, rx⟩ := r.get g
      rw [List.filterMap_cons_some (by exact g), List.filterMap_cons_some (by exact hu)]
      exact .cons rx ih
theorem gK_rel {na nk : Nat} {idx : List Nat} {vs : List V} {us : List Value} {zs : List V} {ws : List Value} (r : Vals vs us) (rz : Vals zs ws) : Vals (gK na nk idx vs zs) (gK na nk idx us ws) := by
  unfold gK
  rw [r.length, rz.length]
  split
  · exact vals_pick (r.append rz) idx
  · exact .nil
theorem gK_len {α : Type} {na nk n : Nat} {idx : List Nat} {us ws : List α} (h : (gK na nk idx us ws).length = n) (hn : n ≠ 0) : us.length = na ∧ ws.length = nk := by
  unfold gK at h
  split at h
  · assumption
  · exact absurd h.symm hn

/-! ### isinstance of a built-in class -/
theorem isi_ty {K : PySem.W.Frag} {H : Hp} {x : V} {t T : String} {b : Bool} {Q : VK} (ty : TyX K H x (.type t)) (k : kitB t T = some b) (q : Q (.bl b) H) : rIsi K [x, .ty T] H Q :=
  ⟨x, .ty T, .type t, .type T, b, rfl, .ty T, ty, kit_ty k, q⟩
theorem kb_int_int : kitB "int" "int" = some true := by decide +kernel
theorem kb_int_bool : kitB "int" "bool" = some false := by decide +kernel
theorem kb_list_list : kitB "list" "list" = some true := by decide +kernel
theorem kb_tuple_tuple : kitB "tuple" "tuple" = some true := by decide +kernel
theorem bt_int : bootBuiltins "int" = some (.type "int") := by decide +kernel
theorem bt_bool : bootBuiltins "bool" = some (.type "bool") := by decide +kernel
theorem bt_list : bootBuiltins "list" = some (.type "list") := by decide +kernel
theorem bt_tuple : bootBuiltins "tuple" = some (.type "tuple") := by decide +kernel
/-- the type of a list that is read -/
theorem ty_seql {K : PySem.W.Frag} {H : Hp} {a : Addr} {xs : List V} (h : SqL K H a xs) : TyX K H (.ref a) (.type "list") := by
  rcases h with (h | ⟨o, h⟩) | ⟨o, its, n, hk, hc, _⟩
  · exact .base (.lst h)
  · exact .base (.frz h)
  · exact .kList hk hc
theorem ty_seqt {K : PySem.W.Frag} {H : Hp} {a : Addr} {xs : List V} (h : SqT K H a xs) : TyX K H (.ref a) (.type "tuple") := by
  rcases h with (h | ⟨o, h⟩) | ⟨o, its, n, hk, hc, _⟩
  · exact .base (.tup h)
  · exact .fTuple h
  · exact .kTuple hk hc

/-! ### more of what evaluates to what -/
section
variable {K : PySem.W.Frag} {σ : L2.St} {H H' : Hp} {ta tb te : TE} {t u : TT} {x y z v : V}
theorem ev_isi {T t : String} {b : Bool} (h : Ev ta σ H x) (ty : ∀ H1, Ex H H1 → TyX K H1 x (.type t)) (k : kitB t T = some b) : Ev (tCB (rIsi K) (tCons ta (tCons (tC (.ty T)) tNil))) σ H (.bl b) := fun H1 e Q q =>
  h H1 e _ fun H2 e2 => isi_ty (ty H2 (e.trans e2)) k (q H2 e2)
theorem ev_sum {p : Addr} {ns : List Int} (ha : Ev ta σ H (.ref p)) (h : SqL K H p (vi ns)) : Ev (tCB (rSum K) (tCons ta tNil)) σ H (.int ns.sum) := fun H1 e Q q =>
  ha H1 e _ fun H2 e2 => ⟨p, ns, rfl, ex_l (e.trans e2) h, q H2 e2⟩
theorem ev_sumN {ns : List Int} (ha : EvL ta σ H (vi ns)) : Ev (tCB (rSum K) (tCons ta tNil)) σ H (.int ns.sum) := fun H1 e Q q =>
  ha H1 e _ fun p H2 hp e2 h2 => ⟨p, ns, rfl, sq_of h2, q H2 e2⟩
theorem ev_int1 {i : Int} (ha : Ev ta σ H (.int i)) : Ev (tCB (fun xs H Q => (∃ i, xs = [.int i] ∧ Q (.int i) H) ∨ ∃ k, xs = [.bl k] ∧ Q (.int (if k then 1 else 0)) H) (tCons ta tNil)) σ H (.int i) := fun H1 e Q q =>
  ha H1 e _ fun H2 e2 => .inl ⟨i, rfl, q H2 e2⟩
theorem ev_abs {i : Int} (ha : Ev ta σ H (.int i)) : Ev (tCB (fun xs H Q => ∃ i, xs = [.int i] ∧ Q (.int (if i < 0 then -i else i)) H) (tCons ta tNil)) σ H (.int (if i < 0 then -i else i)) := fun H1 e Q q =>
  ha H1 e _ fun H2 e2 => ⟨i, rfl, q H2 e2⟩
theorem ev_min2 {i j : Int} (ha : Ev ta σ H (.int i)) (hb : Ev tb σ H (.int j)) : Ev (tCB (fun xs H Q => ∃ i j, xs = [.int i, .int j] ∧ Q (.int (if j < i then j else i)) H) (tCons ta (tCons tb tNil))) σ H (.int (if j < i then j else i)) := fun H1 e Q q =>
  ha H1 e _ fun H2 e2 => hb H2 (e.trans e2) _ fun H3 e3 => ⟨i, j, rfl, q H3 (e2.trans e3)⟩
/-- tuple(xs), xs a new list -/
def rTupOf (K : PySem.W.Frag) : List V → Hp → VK → Prop := fun xs H Q => ∃ p ys, xs = [.ref p] ∧ ((SqL K H p ys ∧ ∀ l, H l = none → Q (.ref l) (upd H l (.tup ys))) ∨ (SqT K H p ys ∧ Q (.ref p) H))
theorem eu_tupOf {p : Addr} {xs : List V} (ha : Ev ta σ H (.ref p)) (h : SqL K H p xs) : EvU (tCB (rTupOf K) (tCons ta tNil)) σ H xs := fun H1 e Q q =>
  ha H1 e _ fun H2 e2 => ⟨p, xs, rfl, .inl ⟨ex_l (e.trans e2) h, fun l hl => q l _ (fresh_back e2 hl) (e2.trans (Ex.new hl)) upd_same⟩⟩
theorem eu_tupOfN {xs : List V} (ha : EvL ta σ H xs) : EvU (tCB (rTupOf K) (tCons ta tNil)) σ H xs := fun H1 e Q q =>
  ha H1 e _ fun p H2 hp e2 h2 => ⟨p, xs, rfl, .inl ⟨sq_of h2, fun l hl => q l _ (fresh_back e2 hl) (e2.trans (Ex.new hl)) upd_same⟩⟩
/-- a + b of lists -/
theorem el_cat {p q : Addr} {xs ys : List V} (ha : Ev ta σ H (.ref p)) (hb : EvL tb σ H ys) (h : H p = some (.lst xs)) (hz : xs.length + ys.length ≤ 100000) : EvL (tOp rCat ta tb) σ H (xs ++ ys) := fun H1 e Q k =>
  ha H1 e _ fun H2 e2 => hb H2 (e.trans e2) _ fun r H3 hr e3 h3 => ⟨p, r, xs, ys, rfl, rfl, e3 _ _ (e2 _ _ (e _ _ h)), h3, sz_of hz, fun l hl => k l _ (fresh_back (e2.trans e3) hl) ((e2.trans e3).trans (Ex.new hl)) upd_same⟩
theorem el_catNN {xs ys : List V} (ha : EvL ta σ H xs) (hb : EvL tb σ H ys) (hz : xs.length + ys.length ≤ 100000) : EvL (tOp rCat ta tb) σ H (xs ++ ys) := fun H1 e Q k =>
  ha H1 e _ fun p H2 hp e2 h2 => hb H2 (e.trans e2) _ fun r H3 hr e3 h3 => ⟨p, r, xs, ys, rfl, rfl, e3 _ _ h2, h3, sz_of hz, fun l hl => k l _ (fresh_back (e2.trans e3) hl) ((e2.trans e3).trans (Ex.new hl)) upd_same⟩
theorem el_catPP {p q : Addr} {xs ys : List V} (ha : Ev ta σ H (.ref p)) (hb : Ev tb σ H (.ref q)) (h : H p = some (.lst xs)) (h' : H q = some (.lst ys)) (hz : xs.length + ys.length ≤ 100000) : EvL (tOp rCat ta tb) σ H (xs ++ ys) := fun H1 e Q k =>
  ha H1 e _ fun H2 e2 => hb H2 (e.trans e2) _ fun H3 e3 => ⟨p, q, xs, ys, rfl, rfl, e3 _ _ (e2 _ _ (e _ _ h)), e3 _ _ (e2 _ _ (e _ _ h')), sz_of hz, fun l hl => k l _ (fresh_back (e2.trans e3) hl) ((e2.trans e3).trans (Ex.new hl)) upd_same⟩

/-! ### pairs: enumerate, zip -/
abbrev g2 (K : PySem.W.Frag) (i j : Nat) : TG := gTup K 2 (gCons (gName i) (gCons (gName j) gNil))
theorem g2_go {i j : Nat} {T : Addr} {x y : V} {Q : L2.St → Hp → Prop} (h : H T = some (.tup [x, y])) (q : Q ((σ.set i (some x)).set j (some y)) H) : g2 K i j (.ref T) σ H Q :=
  ⟨T, [x, y], rfl, .inl (.inl h), rfl, x, [y], rfl, y, [], rfl, rfl, q⟩
variable {D : Ends} {tu tz : TS}
theorem for_Itn {a : Addr} {xs : List V} {c : Int} {i j : Nat} (Pv : Nat → L2.St → Hp → Prop) (h0 : Pv 0 σ H) (hl : ∀ n σ' H', n ≤ xs.length → Pv n σ' H' → SqL K H' a xs)
    (hs : ∀ n x σ' H', xs[n]? = some x → Pv n σ' H' → ∀ H1, Ex H' H1 → tu { D with nx := Pv (n + 1), ct := Pv (n + 1), bk := D.nx } ((σ'.set i (some (.int (c + (n : Nat))))).set j (some x)) H1) (hd : ∀ σ' H', Pv xs.length σ' H' → D.nx σ' H') :
    ∃ W : Nat → Nat → L2.St → Hp → Prop, (∃ m, W 0 m σ H) ∧ ∀ n m σ H, W n m σ H → ((Itn K a c).stop n H ∧ D.nx σ H) ∨ ((Itn K a c).go n H ∧ ∃ N : L2.St → Hp → Prop, (∀ σ' H', N σ' H' → ∃ m', m' < m ∧ W (n + 1) m' σ' H') ∧
      ∀ x H', (Itn K a c).yld n H x H' → g2 K i j x σ H' fun σ2 H2 => tu { D with nx := N, ct := N, bk := D.nx } σ2 H2) := by
  refine ⟨fun n m σ H => m = xs.length - n ∧ n ≤ xs.length ∧ Pv n σ H, ⟨xs.length, by simp, Nat.zero_le _, h0⟩, ?_⟩
  rintro n m σ H ⟨rfl, hi, p⟩
  have q := hl n σ H hi p
  by_cases hlt : n < xs.length
  · refine .inr ⟨⟨xs, xs[n], q, by simp [hlt]⟩, Pv (n + 1), fun σ' H' p' => ⟨xs.length - (n + 1), by omega, rfl, hlt, p'⟩, ?_⟩
    rintro v H' ⟨T, x, rfl, nT, rfl, hx⟩
    exact g2_go upd_same (hs n x σ H (hx xs q) p _ (Ex.new nT))
  · have e : n = xs.length := by omega
    subst e
    exact .inl ⟨⟨xs, q, rfl⟩, hd σ H p⟩
theorem for_Ite {a : Addr} {xs : List V} {i j : Nat} (Pv : Nat → L2.St → Hp → Prop) (h0 : Pv 0 σ H) (hl : ∀ n σ' H', n ≤ xs.length → Pv n σ' H' → SqL K H' a xs)
    (hs : ∀ n x σ' H', xs[n]? = some x → Pv n σ' H' → ∀ H1, Ex H' H1 → tu { D with nx := Pv (n + 1), ct := Pv (n + 1), bk := D.nx } ((σ'.set i (some (.int (n : Nat)))).set j (some x)) H1) (hd : ∀ σ' H', Pv xs.length σ' H' → D.nx σ' H') :
    ∃ W : Nat → Nat → L2.St → Hp → Prop, (∃ m, W 0 m σ H) ∧ ∀ n m σ H, W n m σ H → ((Ite K a).stop n H ∧ D.nx σ H) ∨ ((Ite K a).go n H ∧ ∃ N : L2.St → Hp → Prop, (∀ σ' H', N σ' H' → ∃ m', m' < m ∧ W (n + 1) m' σ' H') ∧
      ∀ x H', (Ite K a).yld n H x H' → g2 K i j x σ H' fun σ2 H2 => tu { D with nx := N, ct := N, bk := D.nx } σ2 H2) := by
  refine ⟨fun n m σ H => m = xs.length - n ∧ n ≤ xs.length ∧ Pv n σ H, ⟨xs.length, by simp, Nat.zero_le _, h0⟩, ?_⟩
  rintro n m σ H ⟨rfl, hi, p⟩
  have q := hl n σ H hi p
  by_cases hlt : n < xs.length
  · refine .inr ⟨⟨xs, xs[n], q, by simp [hlt]⟩, Pv (n + 1), fun σ' H' p' => ⟨xs.length - (n + 1), by omega, rfl, hlt, p'⟩, ?_⟩
    rintro v H' ⟨T, x, rfl, nT, rfl, hx⟩
    exact g2_go upd_same (hs n x σ H (hx xs q) p _ (Ex.new nT))
  · have e : n = xs.length := by omega
    subst e
    exact .inl ⟨⟨xs, q, Nat.le_refl _⟩, hd σ H p⟩
theorem s_forEn {a : Addr} {xs : List V} {tl : TE} {i j : Nat} (h : Ev tl σ H (.ref a)) (hx : SqL K H a xs) (Pv : Nat → L2.St → Hp → Prop) (h0 : ∀ H1, Ex H H1 → Pv 0 σ H1) (hl : ∀ n σ' H', n ≤ xs.length → Pv n σ' H' → SqL K H' a xs)
    (hs : ∀ n x σ' H', xs[n]? = some x → Pv n σ' H' → ∀ H1, Ex H' H1 → tu { D with nx := Pv (n + 1), ct := Pv (n + 1), bk := D.nx } ((σ'.set i (some (.int (n : Nat)))).set j (some x)) H1) (hd : ∀ σ' H', Pv xs.length σ' H' → D.nx σ' H') :
    tFor (iEnum K (tCons tl tNil)) (g2 K i j) tu D σ H :=
  h H (Ex.refl H) _ fun H1 e => ⟨a, xs, rfl, ex_l e hx, for_Ite Pv (h0 H1 e) hl hs hd⟩
theorem s_forEnC {a : Addr} {xs : List V} {tl : TE} {c : Int} {i j : Nat} (h : Ev tl σ H (.ref a)) (hx : SqL K H a xs) (Pv : Nat → L2.St → Hp → Prop) (h0 : ∀ H1, Ex H H1 → Pv 0 σ H1) (hl : ∀ n σ' H', n ≤ xs.length → Pv n σ' H' → SqL K H' a xs)
    (hs : ∀ n x σ' H', xs[n]? = some x → Pv n σ' H' → ∀ H1, Ex H' H1 → tu { D with nx := Pv (n + 1), ct := Pv (n + 1), bk := D.nx } ((σ'.set i (some (.int (c + (n : Nat))))).set j (some x)) H1) (hd : ∀ σ' H', Pv xs.length σ' H' → D.nx σ' H') :
    tFor (iEnumC K (tCons tl tNil) c) (g2 K i j) tu D σ H :=
  h H (Ex.refl H) _ fun H1 e => ⟨a, xs, rfl, ex_l e hx, for_Itn Pv (h0 H1 e) hl hs hd⟩
theorem s_forNEnC {xs : List V} {tl : TE} {c : Int} {i j : Nat} (h : EvL tl σ H xs) (Pv : Addr → Nat → L2.St → Hp → Prop) (h0 : ∀ p H1, H p = none → Ex H H1 → H1 p = some (.lst xs) → Pv p 0 σ H1) (hl : ∀ p n σ' H', n ≤ xs.length → Pv p n σ' H' → SqL K H' p xs)
    (hs : ∀ p n x σ' H', xs[n]? = some x → Pv p n σ' H' → ∀ H1, Ex H' H1 → tu { D with nx := Pv p (n + 1), ct := Pv p (n + 1), bk := D.nx } ((σ'.set i (some (.int (c + (n : Nat))))).set j (some x)) H1) (hd : ∀ p σ' H', Pv p xs.length σ' H' → D.nx σ' H') :
    tFor (iEnumC K (tCons tl tNil) c) (g2 K i j) tu D σ H :=
  h H (Ex.refl H) _ fun p H1 hp e h1 => ⟨p, xs, rfl, sq_of h1, for_Itn (Pv p) (h0 p H1 hp e h1) (hl p) (hs p) (hd p)⟩

/-- [e for i, x in enumerate(xs, start=c) if ..] of pure parts -/
theorem lc_Itn {a : Addr} {xs : List V} {c : Int} {i j : Nat} {vs : List Nat} {H1 : Hp} {Dl : Addr} {Qd : Hp → Prop} (f : Nat → Bool) (v : Nat → V) (hD : H1 Dl = none) (hx : SqL K H1 a xs) (hz : xs.length ≤ 40000)
    (hw : ∀ x y, wipe (((wipe σ vs).set i (some x)).set j (some y)) vs = wipe σ vs)
    (ht : ∀ (n : Nat) x H2, Ex H1 H2 → xs[n]? = some x → EvT t (((wipe σ vs).set i (some (.int (c + (n : Nat))))).set j (some x)) H2 (f n))
    (he : ∀ (n : Nat) x H2, Ex H1 H2 → xs[n]? = some x → f n = true → Ev te (((wipe σ vs).set i (some (.int (c + (n : Nat))))).set j (some x)) H2 (v n)) (hd : ∀ H', Cw H1 f v Dl xs.length H' → Qd H') :
    ∃ W : Nat → Nat → Hp → Prop, (∃ m, W 0 m (upd H1 Dl (.lst []))) ∧ ∀ n m H, W n m H →
      ((Itn K a c).stop n H ∧ Qd H) ∨ ((Itn K a c).go n H ∧ ∃ Nx : Hp → Prop, (∀ H', Nx H' → ∃ m', m' < m ∧ W (n + 1) m' H') ∧ ∀ x H', (Itn K a c).yld n H x H' → g2 K i j x (wipe σ vs) H' fun σ2 H2 => wipe σ2 vs = wipe σ vs ∧ t σ2 H2 fun b H3 =>
        if b = true then te σ2 H3 fun y H4 => ∃ acc, H4 Dl = some (.lst acc) ∧ acc.length < sizeLine ∧ Nx (upd H4 Dl (.lst (acc ++ [y]))) else Nx H3) := by
  refine ⟨fun n m H => m = xs.length - n ∧ n ≤ xs.length ∧ Cw H1 f v Dl n H, ⟨xs.length, by simp, Nat.zero_le _, hD, Ex.new hD, upd_same⟩, ?_⟩
  rintro n m H ⟨rfl, hi, p⟩
  have q := ex_l p.2.1 hx
  by_cases hlt : n < xs.length
  · refine .inr ⟨⟨xs, xs[n], q, by simp [hlt]⟩, Cw H1 f v Dl (n + 1), fun H' p' => ⟨xs.length - (n + 1), by omega, rfl, hlt, p'⟩, ?_⟩
    rintro w H' ⟨T, x, rfl, nT, rfl, hg⟩
    have e1 := Ex.new (o := .tup [.int (c + (n : Nat)), x]) nT
    have gx := hg xs q
    refine g2_go upd_same ⟨hw _ _, cw_turn ⟨p.1, p.2.1.trans e1, e1 _ _ p.2.2⟩ (by omega) (ht n x H1 (Ex.refl H1) gx) (he n x H1 (Ex.refl H1) gx)⟩
  · have e : n = xs.length := by omega
    subst e
    exact .inl ⟨⟨xs, q, rfl⟩, hd H p⟩
theorem el_lcEnC {a : Addr} {xs : List V} {tl : TE} {c : Int} {i j : Nat} {vs : List Nat} (f : Nat → Bool) (v : Nat → V) (h : Ev tl σ H (.ref a)) (hx : SqL K H a xs) (hz : xs.length ≤ 40000)
    (hw : ∀ x y, wipe (((wipe σ vs).set i (some x)).set j (some y)) vs = wipe σ vs)
    (ht : ∀ (n : Nat) x H1, Ex H H1 → xs[n]? = some x → EvT t (((wipe σ vs).set i (some (.int (c + (n : Nat))))).set j (some x)) H1 (f n))
    (he : ∀ (n : Nat) x H1, Ex H H1 → xs[n]? = some x → f n = true → Ev te (((wipe σ vs).set i (some (.int (c + (n : Nat))))).set j (some x)) H1 (v n)) :
    EvL (tLc (iEnumC K (tCons tl tNil) c) (g2 K i j) t te vs) σ H (given xs.length f v) := fun H0 e Q q => h H0 e _ fun H1 e1 => ⟨a, xs, rfl, ex_l (e.trans e1) hx, fun Dl hD =>
  lc_Itn f v hD (ex_l (e.trans e1) hx) hz hw (fun n x H2 e2 gx => ht n x H2 ((e.trans e1).trans e2) gx) (fun n x H2 e2 gx hf => he n x H2 ((e.trans e1).trans e2) gx hf) fun H' p => q Dl H' (fresh_back e1 p.1) (e1.trans p.2.1) p.2.2⟩
theorem el_lcNEnC {xs : List V} {tl : TE} {c : Int} {i j : Nat} {vs : List Nat} (f : Nat → Bool) (v : Nat → V) (h : EvL tl σ H xs) (hz : xs.length ≤ 40000)
    (hw : ∀ x y, wipe (((wipe σ vs).set i (some x)).set j (some y)) vs = wipe σ vs)
    (ht : ∀ (n : Nat) x H1, Ex H H1 → xs[n]? = some x → EvT t (((wipe σ vs).set i (some (.int (c + (n : Nat))))).set j (some x)) H1 (f n))
    (he : ∀ (n : Nat) x H1, Ex H H1 → xs[n]? = some x → f n = true → Ev te (((wipe σ vs).set i (some (.int (c + (n : Nat))))).set j (some x)) H1 (v n)) :
    EvL (tLc (iEnumC K (tCons tl tNil) c) (g2 K i j) t te vs) σ H (given xs.length f v) := fun H0 e Q q => h H0 e _ fun a H1 ha e1 h1 => ⟨a, xs, rfl, sq_of h1, fun Dl hD =>
  lc_Itn f v hD (sq_of h1) hz hw (fun n x H2 e2 gx => ht n x H2 ((e.trans e1).trans e2) gx) (fun n x H2 e2 gx hf => he n x H2 ((e.trans e1).trans e2) gx hf) fun H' p => q Dl H' (fresh_back e1 p.1) (e1.trans p.2.1) p.2.2⟩
/-- [e for x, y in zip(xs, ys)] of pure parts -/
theorem el_lcZ {a b : Addr} {xs ys : List V} {tl tr : TE} {i j : Nat} {vs : List Nat} (v : Nat → V) (h : Ev tl σ H (.ref a)) (h' : Ev tr σ H (.ref b)) (hx : SqL K H a xs) (hy : SqL K H b ys) (hz : xs.length ≤ 40000)
    (hw : ∀ x y, wipe (((wipe σ vs).set i (some x)).set j (some y)) vs = wipe σ vs)
    (he : ∀ (n : Nat) x y H1, Ex H H1 → xs[n]? = some x → ys[n]? = some y → Ev te (((wipe σ vs).set i (some x)).set j (some y)) H1 (v n)) :
    EvL (tLc (iZip K (tCons tl (tCons tr tNil))) (g2 K i j) tYes te vs) σ H (given (min xs.length ys.length) (fun _ => true) v) := fun H0 e Q q => h H0 e _ fun H1 e1 => h' H1 (e.trans e1) _ fun H2 e2 => by
  have ee := (e.trans e1).trans e2
  refine ⟨a, b, xs, ys, rfl, ex_l ee hx, ex_l ee hy, fun Dl hD => ?_⟩
  refine ⟨fun n m H => m = min xs.length ys.length - n ∧ n ≤ min xs.length ys.length ∧ Cw H2 (fun _ => true) v Dl n H, ⟨min xs.length ys.length, by simp, Nat.zero_le _, hD, Ex.new hD, upd_same⟩, ?_⟩
  rintro n m H ⟨rfl, hi, p⟩
  have qx := ex_l (ee.trans p.2.1) hx
  have qy := ex_l (ee.trans p.2.1) hy
  by_cases hlt : n < min xs.length ys.length
  · have h1 : n < xs.length := by omega
    have h2 : n < ys.length := by omega
    refine .inr ⟨⟨xs, ys, xs[n], ys[n], qx, qy, by simp [h1], by simp [h2]⟩, Cw H2 (fun _ => true) v Dl (n + 1), fun H' p' => ⟨min xs.length ys.length - (n + 1), by omega, rfl, hlt, p'⟩, ?_⟩
    rintro w H' ⟨T, x, y, rfl, nT, rfl, gx, gy⟩
    have e3 := Ex.new (o := .tup [x, y]) nT
    refine g2_go upd_same ⟨hw _ _, cw_turn ⟨p.1, p.2.1.trans e3, e3 _ _ p.2.2⟩ (by omega) (fun H3 _ Q q => q H3 (Ex.refl H3)) fun _ => he n x y H2 ee (gx xs qx) (gy ys qy)⟩
  · have e' : n = min xs.length ys.length := by omega
    subst e'
    exact .inl ⟨⟨xs, ys, qx, qy, by omega⟩, q Dl H (fresh_back (e1.trans e2) p.1) ((e1.trans e2).trans p.2.1) p.2.2⟩
end
end Bk
namespace Bk
open PySem PySem.Spec PyProof.Rows L2 Evl

section
variable {K : PySem.W.Frag} {σ : L2.St} {H H' : Hp} {ta tb te tc : TE} {t u : TT} {x y z v : V}
theorem ev_chain {r r' : R2} {w : V} {a b : Bool} (ha : Ev ta σ H x) (hb : Ev tb σ H y) (h1 : RV r x y H (.bl a)) (hc : a = true → Ev tc σ H w) (h2 : a = true → RV r' y w H (.bl b)) : Ev (tChain r r' ta tb tc) σ H (.bl (a && b)) := fun H1 e Q q =>
  ha H1 e _ fun H2 e2 => hb H2 (e.trans e2) _ fun H3 e3 => h1 H3 ((e.trans e2).trans e3) _ fun H4 e4 => ⟨a, rfl, by
    have ee := ((e.trans e2).trans e3).trans e4
    cases a with
    | false =>
      refine iteF ?_
      exact q H4 ((e2.trans e3).trans e4)
    | true =>
      refine iteT ?_
      exact hc rfl H4 ee _ fun H5 e5 => h2 rfl H5 (ee.trans e5) _ fun H6 e6 => q H6 ((((e2.trans e3).trans e4).trans e5).trans e6)⟩
/-- [0] * n and its like -/
theorem el_rep {xs : List V} {n : Int} (ha : EvL ta σ H xs) (hb : ∀ H1, Ex H H1 → Ev tb σ H1 (.int n)) (h0 : 0 ≤ n) (hz : xs.length * n.toNat ≤ 100000) (hn : n ≤ 100000) : EvL (tOp rRep ta tb) σ H (List.replicate n.toNat xs).flatten := fun H1 e Q q =>
  ha H1 e _ fun p H2 hp e2 h2 => hb H2 (e.trans e2) H2 (Ex.refl H2) _ fun H3 e3 => ⟨p, n, xs, rfl, rfl, e3 _ _ h2, by omega, by omega, sz_of hz, fun l hl => q l _ (fresh_back (e2.trans e3) hl) ((e2.trans e3).trans (Ex.new hl)) upd_same⟩
theorem el_ofL {p : Addr} {xs : List V} (ha : Ev ta σ H (.ref p)) (h : SqL K H p xs) : EvL (tCB (fun xs H Q => ∃ p ys, xs = [.ref p] ∧ (SqL K H p ys ∨ SqT K H p ys) ∧ ∀ l, H l = none → Q (.ref l) (upd H l (.lst ys))) (tCons ta tNil)) σ H xs := el_list ha h
/-- list(range(a, b)) -/
theorem el_rg1 {n : Int} (ha : Ev ta σ H (.int n)) (h0 : 0 ≤ n) (hn : n ≤ 100000) : EvL (tLstRg (tRg1 ta)) σ H (rgV 0 n) := fun H1 e Q q =>
  ha H1 e _ fun H2 e2 => ⟨n, rfl, RgOk.of_le (by omega) (by omega) (by omega) h0, fun l hl => q l _ (fresh_back e2 hl) (e2.trans (Ex.new hl)) upd_same⟩
theorem ev_lenT {p : Addr} {xs : List V} (ha : Ev ta σ H (.ref p)) (h : SqT K H p xs) : Ev (tCB (rLenS K) (tCons ta tNil)) σ H (.int (xs.length : Int)) := fun H1 e Q q =>
  ha H1 e _ fun H2 e2 => ⟨p, xs, rfl, Or.inr (ex_t (e.trans e2) h), q H2 e2⟩
theorem ev_lenNT {xs : List V} (ha : EvU ta σ H xs) : Ev (tCB (rLenS K) (tCons ta tNil)) σ H (.int (xs.length : Int)) := fun H1 e Q q =>
  ha H1 e _ fun p H2 _ e2 h2 => ⟨p, xs, rfl, Or.inr (st_of h2), q H2 e2⟩
/-- repr of lists and tuples of ints -/
theorem ev_reprL {p : Addr} {ns : List Int} (ha : Ev ta σ H (.ref p)) (h : SqL K H p (vi ns)) (hw : wide 1900 ns) (hz : ns.length ≤ 4000) : Ev (tCB (rRepr K) (tCons ta tNil)) σ H (.str (PyData.list (di ns)).shown) := fun H1 e Q q =>
  ha H1 e _ fun H2 e2 => repr_l (ex_l (e.trans e2) h) hw hz (q H2 e2)
theorem ev_reprNL {ns : List Int} (ha : EvL ta σ H (vi ns)) (hw : wide 1900 ns) (hz : ns.length ≤ 4000) : Ev (tCB (rRepr K) (tCons ta tNil)) σ H (.str (PyData.list (di ns)).shown) := fun H1 e Q q =>
  ha H1 e _ fun p H2 _ e2 h2 => repr_l (sq_of h2) hw hz (q H2 e2)
theorem ev_reprT {p : Addr} {ns : List Int} (ha : Ev ta σ H (.ref p)) (h : SqT K H p (vi ns)) (hw : wide 1900 ns) (hz : ns.length ≤ 4000) : Ev (tCB (rRepr K) (tCons ta tNil)) σ H (.str (PyData.tuple (di ns)).shown) := fun H1 e Q q =>
  ha H1 e _ fun H2 e2 => repr_t (ex_t (e.trans e2) h) hw hz (q H2 e2)
theorem ev_reprNT {ns : List Int} (ha : EvU ta σ H (vi ns)) (hw : wide 1900 ns) (hz : ns.length ≤ 4000) : Ev (tCB (rRepr K) (tCons ta tNil)) σ H (.str (PyData.tuple (di ns)).shown) := fun H1 e Q q =>
  ha H1 e _ fun p H2 _ e2 h2 => repr_t (st_of h2) hw hz (q H2 e2)
/-- == and != of data -/
theorem rv_eqL {p q : Addr} {ns ms : List Int} (h : SqL K H p (vi ns)) (h' : SqL K H q (vi ms)) : RV (rEqD K) (.ref p) (.ref q) H (.bl (decide (ns = ms))) := fun H1 e Q k =>
  ⟨_, _, dp_lst (ex_l e h), dp_lst (ex_l e h'), shaped_l ns, shaped_l ms, by rw [eqv_l]; exact k H1 (Ex.refl H1)⟩
theorem rv_neL {p q : Addr} {ns ms : List Int} (h : SqL K H p (vi ns)) (h' : SqL K H q (vi ms)) : RV (rNeD K) (.ref p) (.ref q) H (.bl (!decide (ns = ms))) := fun H1 e Q k =>
  ⟨_, _, dp_lst (ex_l e h), dp_lst (ex_l e h'), shaped_l ns, shaped_l ms, by rw [eqv_l]; exact k H1 (Ex.refl H1)⟩
/-- a new tuple from a call -/
def SpU (sp : Sp) (vs : List V) (H : Hp) (xs : List V) : Prop := ∀ H1, Ex H H1 → ∀ Q : VK, (∀ p H2, H1 p = none → Ex H1 H2 → H2 p = some (.tup xs) → Q (.ref p) H2) → ∀ E : XK, sp vs H1 Q E
theorem eu_call {sp : Sp} {dvs vs xs : List V} {E : XK} {ta : TA} (h : EvA ta σ H vs) (hs : SpU sp (vs ++ dvs) H xs) : EvU (tCall sp dvs E ta) σ H xs := fun H1 e Q q =>
  h H1 e _ fun H2 e2 => hs H2 (e.trans e2) Q (fun p H3 hp e3 h3 => q p H3 (fresh_back e2 hp) (e2.trans e3) h3) E
theorem eu_callK {sp : Sp} {gV : List V → List V → List V} {vs zs xs : List V} {E : XK} {ta tk : TA} (h : EvA ta σ H vs) (h' : EvA tk σ H zs) (hs : SpU sp (gV vs zs) H xs) : EvU (tCallK sp gV E ta tk) σ H xs := fun H1 e Q q =>
  h H1 e _ fun H2 e2 => h' H2 (e.trans e2) _ fun H3 e3 => hs H3 ((e.trans e2).trans e3) Q (fun p H4 hp e4 h4 => q p H4 (fresh_back (e2.trans e3) hp) ((e2.trans e3).trans e4) h4) E
theorem el_callK {sp : Sp} {gV : List V → List V → List V} {vs zs xs : List V} {E : XK} {ta tk : TA} (h : EvA ta σ H vs) (h' : EvA tk σ H zs) (hs : SpL sp (gV vs zs) H xs) : EvL (tCallK sp gV E ta tk) σ H xs := fun H1 e Q q =>
  h H1 e _ fun H2 e2 => h' H2 (e.trans e2) _ fun H3 e3 => hs H3 ((e.trans e2).trans e3) Q (fun p H4 hp e4 h4 => q p H4 (fresh_back (e2.trans e3) hp) ((e2.trans e3).trans e4) h4) E
theorem ev_callK {sp : Sp} {gV : List V → List V → List V} {vs zs : List V} {E : XK} {ta tk : TA} (h : EvA ta σ H vs) (h' : EvA tk σ H zs) (hs : SpV sp (gV vs zs) H z) : Ev (tCallK sp gV E ta tk) σ H z := fun H1 e Q q =>
  h H1 e _ fun H2 e2 => h' H2 (e.trans e2) _ fun H3 e3 => hs H3 ((e.trans e2).trans e3) Q (fun H4 e4 => q H4 ((e2.trans e3).trans e4)) E
/-- an argument that is a new list, then a call -/
theorem eu_callL {sp : Sp} {xs ys : List V} {E : XK} (h : EvL ta σ H xs) (hs : ∀ p H1, Ex H H1 → H1 p = some (.lst xs) → SpU sp [.ref p] H1 ys) : EvU (tCall sp [] E (tCons ta tNil)) σ H ys := fun H1 e Q q =>
  h H1 e _ fun p H2 hp e2 h2 => hs p H2 (e.trans e2) h2 H2 (Ex.refl H2) Q (fun r H3 hr e3 h3 => q r H3 (fresh_back e2 hr) (e2.trans e3) h3) E
theorem el_callL {sp : Sp} {xs ys : List V} {E : XK} (h : EvL ta σ H xs) (hs : ∀ p H1, Ex H H1 → H1 p = some (.lst xs) → SpL sp [.ref p] H1 ys) : EvL (tCall sp [] E (tCons ta tNil)) σ H ys := fun H1 e Q q =>
  h H1 e _ fun p H2 hp e2 h2 => hs p H2 (e.trans e2) h2 H2 (Ex.refl H2) Q (fun r H3 hr e3 h3 => q r H3 (fresh_back e2 hr) (e2.trans e3) h3) E
theorem ev_callL {sp : Sp} {xs : List V} {E : XK} (h : EvL ta σ H xs) (hs : ∀ p H1, Ex H H1 → H1 p = some (.lst xs) → SpV sp [.ref p] H1 z) : Ev (tCall sp [] E (tCons ta tNil)) σ H z := fun H1 e Q q =>
  h H1 e _ fun p H2 hp e2 h2 => hs p H2 (e.trans e2) h2 H2 (Ex.refl H2) Q (fun H3 e3 => q H3 (e2.trans e3)) E
theorem ev_callU {sp : Sp} {xs : List V} {E : XK} (h : EvU ta σ H xs) (hs : ∀ p H1, Ex H H1 → H1 p = some (.tup xs) → SpV sp [.ref p] H1 z) : Ev (tCall sp [] E (tCons ta tNil)) σ H z := fun H1 e Q q =>
  h H1 e _ fun p H2 hp e2 h2 => hs p H2 (e.trans e2) h2 H2 (Ex.refl H2) Q (fun H3 e3 => q H3 (e2.trans e3)) E
def RetU (xs : List V) (H : Hp) (Q : VK) : Prop := ∀ p H2, H p = none → Ex H H2 → H2 p = some (.tup xs) → Q (.ref p) H2
end

/-! ### a well: three ints, of which draws are made -/
def Well (H : Hp) (a : Addr) (n : Nat) : Prop := ∃ x y c : Int, H a = some (.lst [.int x, .int y, .int c]) ∧ 0 ≤ y ∧ y < 2 ^ 200 ∧ 0 ≤ c ∧ c ≤ n
theorem Well.mono {H : Hp} {a : Addr} {n m : Nat} (h : Well H a n) (l : n ≤ m) : Well H a m := by
  obtain ⟨x, y, c, h1, h2, h3, h4, h5⟩ := h
  exact ⟨x, y, c, h1, h2, h3, h4, by omega⟩
theorem Well.ex {H H' : Hp} {a : Addr} {n : Nat} (h : Well H a n) (e : Ex H H') : Well H' a n := by
  obtain ⟨x, y, c, h1, h2⟩ := h
  exact ⟨x, y, c, e _ _ h1, h2⟩
theorem Well.ne {H : Hp} {a p : Addr} {n : Nat} (h : Well H a n) (hp : H p = none) : p ≠ a := by
  obtain ⟨x, y, c, h1, h2⟩ := h
  exact (ne_of_none h1 hp).symm
/-- the promise of a draw -/
def sp_dr (K : PySem.W.Frag) : Sp := fun vs H Q _ => ∃ (a : Addr) (n : Nat) (m : Int), vs = [.ref a, .int m] ∧ Well H a n ∧ n + 1 ≤ 2 ^ 50 ∧ 0 < m ∧ m < 2 ^ 8000 ∧
  ∀ (r : Int) (H2 : Hp), But a H H2 → Well H2 a (n + 1) → 0 ≤ r → r < m → Q (.int r) H2
/-- without the well -/
def hid (a : Addr) (H : Hp) : Hp := fun b => if b = a then none else H b
theorem hid_ne {a b : Addr} {H : Hp} (h : b ≠ a) : hid a H b = H b := if_neg h
theorem ex_hid {a : Addr} {H H1 : Hp} (x : But a H H1) : Ex (hid a H) H1 := fun b o h => by
  by_cases c : b = a
  · rw [c] at h
    unfold hid at h
    rw [if_pos rfl] at h
    cases h
  · rw [hid_ne c] at h
    exact x b o c h
theorem But.ex {a : Addr} {H H1 : Hp} (x : Ex H H1) : But a H H1 := fun b o _ h => x b o h
/-- what evaluates, drawing d times, to something of which P -/
def EvW (a : Addr) (d : Nat) (te : TE) (σ : L2.St) (H : Hp) (P : V → Prop) : Prop := ∀ (n : Nat) (H1 : Hp), But a H H1 → Well H1 a n → n + d ≤ 2 ^ 50 → ∀ Q : VK, (∀ v H2, But a H1 H2 → Well H2 a (n + d) → P v → Q v H2) → te σ H1 Q
def EvWL (a : Addr) (d : Nat) (te : TE) (σ : L2.St) (H : Hp) (P : List V → Prop) : Prop := ∀ (n : Nat) (H1 : Hp), But a H H1 → Well H1 a n → n + d ≤ 2 ^ 50 → ∀ Q : VK, (∀ p xs H2, H1 p = none → But a H1 H2 → Well H2 a (n + d) → H2 p = some (.lst xs) → P xs → Q (.ref p) H2) → te σ H1 Q
section
variable {K : PySem.W.Frag} {σ : L2.St} {H : Hp} {ta tb te ti tl : TE} {a : Addr} {d d1 d2 : Nat} {P P1 P2 : V → Prop} {v : V}
theorem EvW.mono (x : EvW a d te σ H P) (h : ∀ v, P v → P1 v) : EvW a d te σ H P1 := fun n H1 b w l Q q => x n H1 b w l Q fun v H2 b2 w2 p => q v H2 b2 w2 (h v p)
theorem ew_pure (h : Ev te σ (hid a H) v) (p : P v) : EvW a 0 te σ H P := fun n H1 b w l Q q => h H1 (ex_hid b) Q fun H2 e2 => q v H2 (But.ex e2) (w.ex e2) p
theorem ew_op {r : R2} (h1 : EvW a d1 ta σ H P1) (h2 : EvW a d2 tb σ H P2) (hr : ∀ x y, P1 x → P2 y → ∃ z, (∀ H, RV r x y H z) ∧ P z) : EvW a (d1 + d2) (tOp r ta tb) σ H P := fun n H1 b w l Q q =>
  h1 n H1 b w (by omega) _ fun x H2 b2 w2 p => h2 (n + d1) H2 (b.trans b2) w2 (by omega) _ fun y H3 b3 w3 p' => by
    obtain ⟨z, hz, pz⟩ := hr x y p p'
    refine hz H3 H3 (Ex.refl H3) Q fun H4 e4 => q z H4 ((b2.trans b3).trans (But.ex e4)) ?_ pz
    have w4 := w3.ex e4
    rw [Nat.add_assoc] at w4
    exact w4
/-- draw(well, e) -/
theorem ew_draw {i : Nat} {E : XK} (hσ : σ[i]? = some (some (.ref a))) (h : EvW a d te σ H P) (hP : ∀ v, P v → ∃ m : Int, v = .int m ∧ 0 < m ∧ m < 2 ^ 8000) :
    EvW a (d + 1) (tCall (sp_dr K) [] E (tCons (tVar i) (tCons te tNil))) σ H (fun v => ∃ m r : Int, P (.int m) ∧ v = .int r ∧ 0 ≤ r ∧ r < m) := fun n H1 b w l Q q => by
  refine ⟨.ref a, hσ, ?_⟩
  refine h n H1 b w (by omega) _ fun x H2 b2 w2 p => ?_
  obtain ⟨m, rfl, h0, h1⟩ := hP x p
  refine ⟨a, n + d, m, rfl, w2, by omega, h0, h1, fun r H3 b3 w3 r0 r1 => q _ H3 (b2.trans b3) ?_ ⟨m, r, p, rfl, r0, r1⟩⟩
  exact w3
/-- draw(well, m) -/
theorem ew_drawC {i : Nat} {E : XK} {m : Int} (hσ : σ[i]? = some (some (.ref a))) (h : Ev te σ (hid a H) (.int m)) (h0 : 0 < m) (h1 : m < 2 ^ 8000) :
    EvW a 1 (tCall (sp_dr K) [] E (tCons (tVar i) (tCons te tNil))) σ H (fun v => ∃ r : Int, v = .int r ∧ 0 ≤ r ∧ r < m) :=
  (ew_draw hσ (ew_pure (P := fun v => v = .int m) h rfl) fun v e => ⟨m, e, h0, h1⟩).mono fun v ⟨m', r, e, ev, r0, r1⟩ => by
    cases e
    exact ⟨r, ev, r0, r1⟩
/-- [..][e] with the list made ahead -/
theorem ew_ix {xs : List V} (hl : EvL tl σ (hid a H) xs) (hi : EvW a d ti σ H P) (hP : ∀ v, P v → ∃ (i : Int) (x : V), v = .int i ∧ atI xs i = some x ∧ P1 x) : EvW a d (tOp (rIxL K) tl ti) σ H P1 := fun n H1 b w l Q q =>
  hl H1 (ex_hid b) _ fun p H2 hp e2 h2 => hi n H2 (b.trans (But.ex e2)) (w.ex e2) l _ fun v H3 b3 w3 pv => by
    obtain ⟨i, x, rfl, hx, px⟩ := hP v pv
    exact ⟨p, xs, i, x, rfl, rfl, sq_of (b3 p _ (w.ne hp) h2), hx, q x H3 ((But.ex e2).trans b3) w3 px⟩
/-- an own value's wish: e + e' of ints -/
theorem ew_add {P1 P2 P : Int → Prop} (h1 : EvW a d1 ta σ H (fun v => ∃ r, v = .int r ∧ P1 r)) (h2 : EvW a d2 tb σ H (fun v => ∃ r, v = .int r ∧ P2 r)) (h : ∀ x y, P1 x → P2 y → P (x + y)) :
    EvW a (d1 + d2) (tOp (rI0 fun i j => .int (i + j)) ta tb) σ H (fun v => ∃ r, v = .int r ∧ P r) :=
  ew_op h1 h2 fun x y ⟨i, ei, p⟩ ⟨j, ej, p'⟩ => ⟨.int (i + j), fun H => by
    rw [ei, ej]
    exact rv_I0, i + j, rfl, h i j p p'⟩
theorem ew_c {i : Int} {P : Int → Prop} (p : P i) : EvW a 0 (tC (.int i)) σ H (fun v => ∃ r, v = .int r ∧ P r) := ew_pure ev_c ⟨i, rfl, p⟩
theorem ew_v {j : Nat} {i : Int} {P : Int → Prop} (h : σ[j]? = some (some (.int i))) (p : P i) : EvW a 0 (tVar j) σ H (fun v => ∃ r, v = .int r ∧ P r) := ew_pure (ev_var h) ⟨i, rfl, p⟩
/-! statements -/
variable {D : Ends} {tu tw tz : TS} {n : Nat}
theorem sw_asg {i : Nat} (h : EvW a d te σ H P) (w : Well H a n) (l : n + d ≤ 2 ^ 50) (k : ∀ v H1, But a H H1 → Well H1 a (n + d) → P v → D.nx (σ.set i (some v)) H1) : tAsg te (gName i) D σ H :=
  h n H (But.refl a H) w l _ fun v H2 b2 w2 p => k v H2 b2 w2 p
theorem qw_asg {i : Nat} (h : EvW a d te σ H P) (w : Well H a n) (l : n + d ≤ 2 ^ 50) (k : ∀ v H1, But a H H1 → Well H1 a (n + d) → P v → tz D (σ.set i (some v)) H1) : tSeq (tAsg te (gName i)) tz D σ H :=
  sw_asg (D := { D with nx := tz D }) h w l k
theorem qw_if {te : TE} (h : EvW a d te σ H (fun v => ∃ b, v = .bl b)) (w : Well H a n) (l : n + d ≤ 2 ^ 50) (k1 : ∀ H1, But a H H1 → Well H1 a (n + d) → tu { D with nx := tz D } σ H1)
    (k2 : ∀ H1, But a H H1 → Well H1 a (n + d) → tw { D with nx := tz D } σ H1) : tSeq (tIfS (tTest te) tu tw) tz D σ H :=
  h n H (But.refl a H) w l _ fun v H2 b2 w2 ⟨b, e⟩ => ⟨b, e, by
    cases b with
    | true => exact iteT (k1 H2 b2 w2)
    | false => exact iteF (k2 H2 b2 w2)⟩
/-- a test draw(..) == c -/
theorem ew_eq {P1 P2 : Int → Prop} (h1 : EvW a d1 ta σ H (fun v => ∃ r, v = .int r ∧ P1 r)) (h2 : EvW a d2 tb σ H (fun v => ∃ r, v = .int r ∧ P2 r)) : EvW a (d1 + d2) (tOp rEq ta tb) σ H (fun v => ∃ b, v = .bl b) :=
  ew_op h1 h2 fun x y ⟨i, ei, p⟩ ⟨j, ej, p'⟩ => ⟨.bl (decide (x = y)), fun H => by
    rw [ei, ej]
    exact rv_eq rfl, _, rfl⟩
end
end Bk
namespace Bk
open PySem PySem.Spec PyProof.Rows L2 Evl

section
variable {K : PySem.W.Frag} {H : Hp}
theorem rv_b {g : Int → Int → Bool} {i j : Int} {b : Bool} (h : g i j = b) : RV (rI0 fun i j => .bl (g i j)) (.int i) (.int j) H (.bl b) := h ▸ rv_I0 (g := fun i j => .bl (g i j))
theorem p10_pos (n : Nat) : 0 < (10 : Int) ^ n := Int.pow_pos (by decide)
theorem cpw {i j : Int} (h : i.natAbs < 2 ^ 250) (h0 : 0 ≤ j) (h1 : j ≤ 64) : CPowW i j := ⟨h0, h1, Nat.lt_of_lt_of_le h (Nat.pow_le_pow_right (by decide) (by decide))⟩
theorem cdw {j : Int} (i : Int) (h : 0 < j) (hb : j.natAbs < 2 ^ 250) : CDivW i j := wide_div h hb (by decide) (by decide)
theorem cdw8 {j : Int} (i : Int) (h : 0 < j) (hb : j < 2 ^ 8000) : CDivW i j := by
  refine wide_div (b := 8000) h ?_ (by decide) (by decide)
  have e : ((j.natAbs : Nat) : Int) = j := Int.natAbs_of_nonneg (by omega)
  have : ((j.natAbs : Nat) : Int) < ((2 ^ 8000 : Nat) : Int) := by
    rw [e, Int.natCast_pow]
    exact hb
  exact Int.ofNat_lt.mp this
theorem lt8000 {m : Int} (h : m < 2 ^ 250) : m < 2 ^ 8000 := by
  have a : ((2 : Nat) ^ 250) ≤ 2 ^ 8000 := Nat.pow_le_pow_right (by decide) (by decide)
  have b : (((2 : Nat) ^ 250 : Nat) : Int) ≤ (((2 : Nat) ^ 8000 : Nat) : Int) := Int.ofNat_le.mpr a
  rw [Int.natCast_pow, Int.natCast_pow] at b
  exact Int.lt_of_lt_of_le h b
/-- left factor small -/
theorem cml {i j : Int} (h : -(2 ^ 64) < i ∧ i < 2 ^ 64) : CMul i j := .inl h
theorem vi_inv {ns : List Int} {i : Nat} {x : V} (h : (vi ns)[i]? = some x) : ∃ m, x = .int m ∧ ns[i]? = some m ∧ ns.getD i 0 = m := by
  rw [List.getElem?_map] at h
  cases g : ns[i]? with
  | none =>
    rw [g] at h
    cases h
  | some m =>
    rw [g] at h
    cases h
    exact ⟨m, rfl, rfl, by rw [List.getD_eq_getElem?_getD, g]; rfl⟩
theorem given_all (n : Nat) (v : Nat → V) : given n (fun _ => true) v = (List.range n).map v := by
  unfold given
  rw [List.filter_eq_self.mpr (fun _ _ => rfl)]
theorem given_ints (n : Nat) (f : Nat → Int) : given n (fun _ => true) (fun i => V.int (f i)) = vi ((List.range n).map f) := by
  rw [given_all]
  unfold vi
  rw [List.map_map]
  rfl
variable {σ : L2.St} {ta tb te : TE} {t u : TT} {D : Ends} {tu tz : TS}
theorem el_is {xs ys : List V} (h : EvL te σ H xs) (e : xs = ys) : EvL te σ H ys := e ▸ h
theorem eu_is {xs ys : List V} (h : EvU te σ H xs) (e : xs = ys) : EvU te σ H ys := e ▸ h
theorem el_lcR2 {ta : TA} {j : Nat} {vs : List Nat} {lo n : Int} (f : Nat → Bool) (v : Nat → V) (h : EvA ta σ H [.int lo, .int n]) (hn : 0 ≤ lo ∧ lo ≤ 40000 ∧ -40000 ≤ n ∧ n ≤ 40000) (hw : ∀ x, wipe ((wipe σ vs).set j (some x)) vs = wipe σ vs)
    (ht : ∀ (i : Nat) H1, Ex H H1 → lo + (i : Int) < n → EvT t ((wipe σ vs).set j (some (.int (lo + (i : Int))))) H1 (f i)) (he : ∀ (i : Nat) H1, Ex H H1 → lo + (i : Int) < n → f i = true → Ev te ((wipe σ vs).set j (some (.int (lo + (i : Int))))) H1 (v i)) :
    EvL (tLc (iRng2 ta) (gName j) t te vs) σ H (given (n - lo).toNat f v) := fun H0 e Q q => h H0 e _ fun H1 e1 => ⟨lo, n, rfl, ⟨by omega, by omega, by omega, by omega⟩, fun Dl hD =>
  lc_range (lo := lo) (n := (n - lo).toNat) (Cw H1 f v Dl) ⟨hD, Ex.new hD, upd_same⟩ (fun i H' hi p =>
    ⟨hw _, cw_turn p (by omega) (ht i H1 (e.trans e1) (by omega)) (fun hf => he i H1 (e.trans e1) (by omega) hf)⟩) (fun H' p => q Dl H' (fresh_back e1 p.1) (e1.trans p.2.1) p.2.2)⟩
theorem et_yes : EvT tYes σ H true := fun H1 _ Q q => q H1 (Ex.refl H1)
/-- xs.extend(ys), ys new -/
theorem s_ext {l : Addr} {xs ys : List V} (hl : H l = some (.lst xs)) (ha : Ev ta σ H (.ref l)) (h : EvL te σ H ys) (hz : xs.length + ys.length ≤ 100000) (k : ∀ H1, Ex H H1 → D.nx σ (upd H1 l (.lst (xs ++ ys)))) :
    tDrop (tBM K "list" rExtend ta (tCons te tNil)) D σ H := ha H (Ex.refl H) _ fun H1 e1 =>
  ⟨Or.inl ⟨rfl, xs, sq_of (e1 l _ hl)⟩, h H1 e1 _ fun p H2 hp e2 h2 => ⟨l, p, xs, ys, rfl, rfl, e2 l _ (e1 l _ hl), h2, sz_of hz, k H2 (e1.trans e2)⟩⟩
theorem q_ext {l : Addr} {xs ys : List V} (hl : H l = some (.lst xs)) (ha : Ev ta σ H (.ref l)) (h : EvL te σ H ys) (hz : xs.length + ys.length ≤ 100000) (k : ∀ H1, Ex H H1 → tz D σ (upd H1 l (.lst (xs ++ ys)))) :
    tSeq (tDrop (tBM K "list" rExtend ta (tCons te tNil))) tz D σ H := s_ext (D := { D with nx := tz D }) hl ha h hz k
theorem q_forEnC {a : Addr} {xs : List V} {tl : TE} {c : Int} {i j : Nat} (h : Ev tl σ H (.ref a)) (hx : SqL K H a xs) (Pv : Nat → L2.St → Hp → Prop) (h0 : ∀ H1, Ex H H1 → Pv 0 σ H1) (hl : ∀ n σ' H', n ≤ xs.length → Pv n σ' H' → SqL K H' a xs)
    (hs : ∀ n x σ' H', xs[n]? = some x → Pv n σ' H' → ∀ H1, Ex H' H1 → tu { D with nx := Pv (n + 1), ct := Pv (n + 1), bk := tz D } ((σ'.set i (some (.int (c + (n : Nat))))).set j (some x)) H1) (hd : ∀ σ' H', Pv xs.length σ' H' → tz D σ' H') :
    tSeq (tFor (iEnumC K (tCons tl tNil) c) (g2 K i j) tu) tz D σ H := s_forEnC (D := { D with nx := tz D }) h hx Pv h0 hl hs hd

/-! ### more with a well -/
theorem ex_but {p : Addr} {H H1 H2 : Hp} (e : Ex H H1) (n : H p = none) (b : But p H1 H2) : Ex H H2 := fun c o h => b c o (ne_of_none h n) (e c o h)
theorem but_fresh {a p : Addr} {H H1 : Hp} {n : Nat} (b : But a H H1) (w : Well H a n) (w1 : Well H1 a n) (h : H1 p = none) : H p = none := by
  cases q : H p with
  | none => rfl
  | some o =>
    rw [b p o (w1.ne h) q] at h
    cases h
theorem but_free {a p : Addr} {H H1 : Hp} {m : Nat} (b : But a H H1) (w1 : Well H1 a m) (h : H1 p = none) : H p = none := b.free (w1.ne h) h
variable {a : Addr} {d d1 d2 n : Nat} {P P1 P2 : V → Prop} {ti tw : TE} {ts : TS}
theorem ew_min2 {P1 P2 P : Int → Prop} (h1 : EvW a d1 ta σ H (fun v => ∃ r, v = .int r ∧ P1 r)) (h2 : EvW a d2 tb σ H (fun v => ∃ r, v = .int r ∧ P2 r)) (h : ∀ x y, P1 x → P2 y → P (if y < x then y else x)) :
    EvW a (d1 + d2) (tCB (fun xs H Q => ∃ i j, xs = [.int i, .int j] ∧ Q (.int (if j < i then j else i)) H) (tCons ta (tCons tb tNil))) σ H (fun v => ∃ r, v = .int r ∧ P r) := fun n H1 b w l Q q =>
  h1 n H1 b w (by omega) _ fun x H2 b2 w2 ⟨i, ei, pi⟩ => h2 (n + d1) H2 (b.trans b2) w2 (by omega) _ fun y H3 b3 w3 ⟨j, ej, pj⟩ => by
    rw [Nat.add_assoc] at w3
    subst ei ej
    exact ⟨i, j, rfl, q _ H3 (b2.trans b3) w3 ⟨_, rfl, h i j pi pj⟩⟩
theorem sw_forR1 {P : Int → Prop} {j : Nat} (h : EvW a d te σ H (fun v => ∃ r, v = .int r ∧ P r)) (hP : ∀ r, P r → 0 ≤ r ∧ r ≤ 100000) (w : Well H a n) (l : n + d ≤ 2 ^ 50) (Pv : Nat → L2.St → Hp → Prop)
    (h0 : ∀ r H1, P r → But a H H1 → Well H1 a (n + d) → Pv 0 σ H1)
    (hs : ∀ r (i : Nat) σ' H', P r → (i : Int) < r → Pv i σ' H' → tu { D with nx := Pv (i + 1), ct := Pv (i + 1), bk := D.nx } (σ'.set j (some (.int (i : Int)))) H')
    (hd : ∀ r σ' H', P r → Pv r.toNat σ' H' → D.nx σ' H') : tFor (iRng1 (tCons te tNil)) (gName j) tu D σ H :=
  h n H (But.refl a H) w l _ fun v H2 b2 w2 ⟨r, er, pr⟩ => by
    subst er
    obtain ⟨r0, r1⟩ := hP r pr
    refine ⟨r, rfl, by omega, by omega, for_range (lo := 0) (n := r.toNat) Pv (h0 r H2 pr b2 w2) (fun i σ' H' hi p => ?_) (fun σ' H' p => hd r σ' H' pr p)⟩
    have e0 : (0 : Int) + (i : Int) = (i : Int) := Int.zero_add _
    show tu { D with nx := Pv (i + 1), ct := Pv (i + 1), bk := D.nx } (σ'.set j (some (.int ((0 : Int) + (i : Int))))) H'
    rw [e0]
    exact hs r i σ' H' pr (by omega) p
theorem qw_forR1 {P : Int → Prop} {j : Nat} (h : EvW a d te σ H (fun v => ∃ r, v = .int r ∧ P r)) (hP : ∀ r, P r → 0 ≤ r ∧ r ≤ 100000) (w : Well H a n) (l : n + d ≤ 2 ^ 50) (Pv : Nat → L2.St → Hp → Prop)
    (h0 : ∀ r H1, P r → But a H H1 → Well H1 a (n + d) → Pv 0 σ H1)
    (hs : ∀ r (i : Nat) σ' H', P r → (i : Int) < r → Pv i σ' H' → tu { D with nx := Pv (i + 1), ct := Pv (i + 1), bk := tz D } (σ'.set j (some (.int (i : Int)))) H')
    (hd : ∀ r σ' H', P r → Pv r.toNat σ' H' → tz D σ' H') : tSeq (tFor (iRng1 (tCons te tNil)) (gName j) tu) tz D σ H :=
  sw_forR1 (D := { D with nx := tz D }) h hP w l Pv h0 hs hd
/-- if draw.. or pure: .. -/
theorem qw_ifOr {b : Bool} (h : EvW a d te σ H (fun v => ∃ b, v = .bl b)) (hb : ∀ H1, But a H H1 → EvT u σ H1 b) (w : Well H a n) (l : n + d ≤ 2 ^ 50)
    (k1 : ∀ H1, But a H H1 → Well H1 a (n + d) → tu { D with nx := tz D } σ H1) (k2 : b = false → ∀ H1, But a H H1 → Well H1 a (n + d) → ts { D with nx := tz D } σ H1) : tSeq (tIfS (tOr (tTest te) u) tu ts) tz D σ H :=
  h n H (But.refl a H) w l _ fun v H2 b2 w2 ⟨c, e⟩ => ⟨c, e, by
    cases c with
    | true => exact iteT (iteT (k1 H2 b2 w2))
    | false =>
      refine iteF ?_
      refine hb H2 b2 H2 (Ex.refl H2) _ fun H3 e3 => ?_
      cases b with
      | true => exact iteT (k1 H3 (b2.trans (But.ex e3)) (w2.ex e3))
      | false => exact iteF (k2 rfl H3 (b2.trans (But.ex e3)) (w2.ex e3))⟩
theorem cut_take (xs : List V) (m : Nat) : cutV xs none (some (m : Int)) = xs.take m := by
  unfold cutV
  rw [HT.sIx_none, HT.sIx_nat, List.drop_zero, Nat.sub_zero]
  by_cases h : m ≤ xs.length
  · rw [Nat.min_eq_left h]
  · rw [Nat.min_eq_right (by omega), List.take_of_length_le (Nat.le_refl _), List.take_of_length_le (by omega)]
theorem flat_rep (n : Nat) (x : Int) : (List.replicate n [V.int x]).flatten = vi (List.replicate n x) := by
  unfold vi
  rw [List.map_replicate, List.flatten_replicate_singleton]
theorem el_slN {tl th : TO} {xs : List V} {lo hi : Option Int} (h : EvL te σ H xs) (h1 : EvO tl σ H lo) (h2 : EvO th σ H hi) : EvL (tSl (rSlL K) te tl th) σ H (cutV xs lo hi) := fun H1 e _ q =>
  h H1 e _ fun a H2 ha e2 hx => h1 H2 (e.trans e2) _ fun H3 e3 => h2 H3 ((e.trans e2).trans e3) _ fun H4 e4 =>
    ⟨a, xs, rfl, sq_of (e4 _ _ (e3 _ _ hx)), fun p hp => q p _ (fresh_back ((e2.trans e3).trans e4) hp) (((e2.trans e3).trans e4).trans (Ex.new hp)) upd_same⟩
theorem sw_asgL {P : List V → Prop} {i : Nat} (h : EvWL a d te σ H P) (w : Well H a n) (l : n + d ≤ 2 ^ 50) (k : ∀ p xs H1, H p = none → But a H H1 → Well H1 a (n + d) → H1 p = some (.lst xs) → P xs → D.nx (σ.set i (some (.ref p))) H1) : tAsg te (gName i) D σ H :=
  h n H (But.refl a H) w l _ fun p xs H2 hp b2 w2 h2 p => k _ xs H2 hp b2 w2 h2 p
theorem qw_asgL {P : List V → Prop} {i : Nat} (h : EvWL a d te σ H P) (w : Well H a n) (l : n + d ≤ 2 ^ 50) (k : ∀ p xs H1, H p = none → But a H H1 → Well H1 a (n + d) → H1 p = some (.lst xs) → P xs → tz D (σ.set i (some (.ref p))) H1) : tSeq (tAsg te (gName i)) tz D σ H :=
  sw_asgL (D := { D with nx := tz D }) h w l k
/-- x, y = a, b -/
theorem q_parLU {i j : Nat} {xs ys : List V} (h1 : EvL ta σ H xs) (h2 : ∀ p H1, H p = none → Ex H H1 → H1 p = some (.lst xs) → EvU tb σ H1 ys) (k : ∀ p q H1, H p = none → H q = none → p ≠ q → Ex H H1 → H1 p = some (.lst xs) → H1 q = some (.tup ys) → tz D ((σ.set i (some (.ref p))).set j (some (.ref q))) H1) :
    tSeq (tPar i j (tCons ta (tCons tb tNil))) tz D σ H :=
  h1 H (Ex.refl H) _ fun p H2 hp e2 g2 => h2 p H2 hp e2 g2 H2 (Ex.refl H2) _ fun q H3 hq e3 g3 => ⟨_, _, rfl, k p q H3 hp (fresh_back e2 hq) (ne_of_none g2 hq) (e2.trans e3) (e3 _ _ g2) g3⟩
theorem q_parLL {i j : Nat} {xs ys : List V} (h1 : EvL ta σ H xs) (h2 : ∀ p H1, H p = none → Ex H H1 → H1 p = some (.lst xs) → EvL tb σ H1 ys) (k : ∀ p q H1, H p = none → H q = none → p ≠ q → Ex H H1 → H1 p = some (.lst xs) → H1 q = some (.lst ys) → tz D ((σ.set i (some (.ref p))).set j (some (.ref q))) H1) :
    tSeq (tPar i j (tCons ta (tCons tb tNil))) tz D σ H :=
  h1 H (Ex.refl H) _ fun p H2 hp e2 g2 => h2 p H2 hp e2 g2 H2 (Ex.refl H2) _ fun q H3 hq e3 g3 => ⟨_, _, rfl, k p q H3 hp (fresh_back e2 hq) (ne_of_none g2 hq) (e2.trans e3) (e3 _ _ g2) g3⟩
theorem q_parVV {i j : Nat} {x y : V} (h1 : Ev ta σ H x) (h2 : Ev tb σ H y) (k : ∀ H1, Ex H H1 → tz D ((σ.set i (some x)).set j (some y)) H1) :
    tSeq (tPar i j (tCons ta (tCons tb tNil))) tz D σ H :=
  h1 H (Ex.refl H) _ fun H2 e2 => h2 H2 e2 _ fun H3 e3 => ⟨_, _, rfl, k H3 (e2.trans e3)⟩
theorem q_parLV {i j : Nat} {xs : List V} {y : V} (h1 : EvL ta σ H xs) (h2 : ∀ p H1, H p = none → Ex H H1 → H1 p = some (.lst xs) → Ev tb σ H1 y) (k : ∀ p H1, H p = none → Ex H H1 → H1 p = some (.lst xs) → tz D ((σ.set i (some (.ref p))).set j (some y)) H1) :
    tSeq (tPar i j (tCons ta (tCons tb tNil))) tz D σ H :=
  h1 H (Ex.refl H) _ fun p H2 hp e2 g2 => h2 p H2 hp e2 g2 H2 (Ex.refl H2) _ fun H3 e3 => ⟨_, _, rfl, k p H3 hp (e2.trans e3) (e3 _ _ g2)⟩
theorem q_parVL {i j : Nat} {xs : List V} {y : V} (h1 : Ev ta σ H y) (h2 : EvL tb σ H xs) (k : ∀ p H1, H p = none → Ex H H1 → H1 p = some (.lst xs) → tz D ((σ.set i (some y)).set j (some (.ref p))) H1) :
    tSeq (tPar i j (tCons ta (tCons tb tNil))) tz D σ H :=
  h1 H (Ex.refl H) _ fun H2 e2 => h2 H2 e2 _ fun p H3 hp e3 g3 => ⟨_, _, rfl, k p H3 (fresh_back e2 hp) (e2.trans e3) g3⟩
end
end Bk
/-! ### sorted of a tuple of ints -/
namespace Bk
open PySem PySem.Spec PyProof.Rows L2 Evl
section
variable {prog : Program} {w : World} {A : Around} {E : Value → Shared → Prop} {s : Shared}
theorem collect_tup {l : Addr} {vs : List Value} {Q : List Value → Shared → Prop} (ht : IsTup s.heap l vs.toArray) (hz : vs.length ≤ sizeLine)
    (h : Q vs { s with heap := (s.heap.push (seqObj "list" #[] 0)).update s.heap.objs.size (Obj.mapSeq (· ++ vs.toArray)) }) : wpAny (model prog w) A (collect (.ref l)) Q E s := by
  obtain ⟨o, ho, hc, n, hd⟩ := ht
  unfold collect
  refine wpAny_bind (wpAny_runValue (codeAny_builtin entry_proto_collect' ?_))
  show wpAny _ _ (newList [] >>= fun r => again (.builtin "list.__iadd__" ⟨[r, .ref l], []⟩)) _ _ s
  refine wpAny_bind (wpAny_newList (wpAny_pure ⟨Code.quiet_builtin _ (by decide +kernel), codeAny_builtin entry_list_iadd' ?_⟩))
  show wpAny _ _ (Builtin.List.listExtendWith (.ref s.heap.objs.size) (.ref l) (.ref s.heap.objs.size)) _ _ { s with heap := s.heap.push (seqObj "list" #[] 0) }
  unfold Builtin.List.listExtendWith
  have ho1 : (s.heap.push (seqObj "list" #[] 0)).get? l = some o := Heap.get?_push_of_some _ ho
  refine wpAny_bind (wpAny_typeOf (T := "tuple") ⟨o, ho1, hc⟩ ?_)
  have e1 : (Value.type "tuple" == Value.type "tuple") = true := by rfl
  rw [if_pos (by rw [e1]; simp)]
  refine wpAny_bind (listItems_at ho1 hd ?_)
  refine wpAny_bind (listItems_at (xs := #[]) (n := 0) (Heap.get?_push_size _ rfl) rfl ?_)
  rw [if_neg (by simp)]
  refine wpAny_bind (listUpdate_at (xs := #[]) (n := 0) (Heap.get?_push_size _ rfl) rfl ?_ (Nat.zero_le _) (by
    show (#[] ++ vs.toArray).size ≤ sizeLine + 1
    simp only [Array.size_append, List.size_toArray, List.length_nil]
    omega))
  refine wpAny_pure ?_
  refine wpAny_bind (wpAny_load (get?_update_seq (Heap.get?_push_size _ rfl) _) ?_)
  have e2 : ((#[] : Array Value) ++ vs.toArray).toList = vs := by simp
  show wpAny _ _ (pure ((#[] : Array Value) ++ vs.toArray).toList) Q E _
  rw [e2]
  exact wpAny_pure h
/-- behind the collecting: the new list is sorted -/
theorem sorted_tup {l : Addr} {vs : List Value} {ns : List Int} {Q : Value → Shared → Prop} (ht : IsTup s.heap l vs.toArray) (hz : vs.length ≤ sizeLine) (hI : IntsAre vs ns)
    (h : ∀ out : List Value, IntsAre out (out.map SrtO.iv) → (out.map SrtO.iv).Perm ns → (out.map SrtO.iv).Pairwise (· ≤ ·) → Q (.ref (s.heap.objs.size + 1)) { s with heap := sortedAll s.heap vs out.toArray }) :
    wpAny (model prog w) A (call (.builtin "sorted") [.ref l]) Q E s := by
  refine Calls.call_function_entry kind_sorted plain_sorted entry_sorted (args_sorted1 _) ?_
  unfold Builtin.«sorted»
  refine wpAny_bind (m := checkCount "sorted" 1 1 _) (wpAny_pure ?_)
  refine wpAny_bind (collect_tup ht hz ?_)
  refine wpAny_bind (wpAny_newList ?_ hz)
  have es : ((s.heap.push (seqObj "list" #[] 0)).update s.heap.objs.size (Obj.mapSeq (· ++ vs.toArray))).objs.size = s.heap.objs.size + 1 := by
    rw [Heap.size_update, size_push']
  have at1 : (((s.heap.push (seqObj "list" #[] 0)).update s.heap.objs.size (Obj.mapSeq (· ++ vs.toArray))).push (seqObj "list" vs.toArray 0)).get? (s.heap.objs.size + 1) = some (seqObj "list" vs.toArray 0) := by
    rw [← es]
    exact Heap.get?_push_size _ rfl
  show wpAny _ _ _ _ _ { s with heap := ((s.heap.push (seqObj "list" #[] 0)).update s.heap.objs.size (Obj.mapSeq (· ++ vs.toArray))).push (seqObj "list" vs.toArray 0) }
  rw [es]
  refine wpAny_bind (wpAny_holding (wpAny_call_entry slot_list_sort ⟨_, at1, rfl⟩ entry_list_sort (SrtO.list_sort_ord SrtO.swo_int at1 hz (fun h2 => SrtO.ints_sortable hI h2) fun out hs hb => ⟨_, rfl, ?_⟩) (args_list_sort _)))
  obtain ⟨k1, k2, k3⟩ := SrtO.ints_out hI hs hb
  exact wpAny_pure ⟨_, rfl, h out k1 k2 k3⟩
end
def rSortedT (K : PySem.W.Frag) : List V → Hp → VK → Prop := fun vs H Q => ∃ (a : Addr) (ns : List Int), vs = [V.ref a] ∧ SqT K H a (vi ns) ∧
  ∀ (ns' : List Int) (p : Addr), ns'.Perm ns → ns'.Pairwise (· ≤ ·) → H p = none → Q (.ref p) (upd H p (.lst (vi ns')))
theorem cr_sortedTup {X : Cx} : CallR X (.builtin "sorted") (rSortedT X.K) := by
  intro pins s σ H vs us Q I r h
  obtain ⟨a, ns, rfl, hs, q⟩ := h
  obtain ⟨its, rv, ht, hz⟩ := I.tuple hs
  rw [Vals.ref1 r]
  have hi := rv.ints
  refine sorted_tup ht (by rw [← rv.length]; exact hz) hi ?_
  intro out k1 k2 k3
  obtain ⟨ep, he'⟩ := PyProof.Rows.sortedAll_at s.heap its out.toArray
  have hlen : (vi (out.map SrtO.iv)).length ≤ sizeLine := by
    rw [List.length_map] at hz
    rw [List.length_map, k2.length_eq]
    exact hz
  exact ⟨.ref _, upd H (s.heap.objs.size + 1) (.lst (vi (out.map SrtO.iv))), I.laid (t' := s.toks) (fun _ _ => PyProof.Rows.sortedAll_old) (Nat.le_succ _) ⟨hlen, out, ep, vals_of_ints k1, he'⟩, rfl, q _ _ k2 k3 (I.hok.fresh (Nat.le_succ _))⟩

/-- the one sorted list -/
theorem sorted_unique {ns ms : List Int} (hp : ns.Perm ms) (h1 : ns.Pairwise (· ≤ ·)) (h2 : ms.Pairwise (· ≤ ·)) : ns = ms := by
  induction ns generalizing ms with
  | nil => exact (List.nil_perm.mp hp).symm
  | cons a r ih =>
    cases ms with
    | nil => exact absurd hp.length_eq (by simp)
    | cons b q =>
      have ha := List.pairwise_cons.mp h1
      have hb := List.pairwise_cons.mp h2
      have e : a = b := by
        have m1 : a ∈ b :: q := hp.mem_iff.mp List.mem_cons_self
        have m2 : b ∈ a :: r := hp.mem_iff.mpr List.mem_cons_self
        have l1 : b ≤ a := by
          rcases List.mem_cons.mp m1 with z | z
          · omega
          · exact hb.1 a z
        have l2 : a ≤ b := by
          rcases List.mem_cons.mp m2 with z | z
          · omega
          · exact ha.1 b z
        omega
      subst e
      rw [ih (List.Perm.cons_inv hp) ha.2 hb.2]

section
variable {K : PySem.W.Frag} {σ : L2.St} {H H' : Hp} {ta tb te tl : TE} {t u : TT} {x y z v : V} {D : Ends} {tu tz : TS}
theorem el_sortedT {p : Addr} {ns ms : List Int} (ha : Ev ta σ H (.ref p)) (h : SqT K H p (vi ns)) (hp : ns.Perm ms) (hm : ms.Pairwise (· ≤ ·)) : EvL (tCB (rSortedT K) (tCons ta tNil)) σ H (vi ms) := fun H1 e Q q =>
  ha H1 e _ fun H2 e2 => ⟨p, ns, rfl, ex_t (e.trans e2) h, fun ns' l k1 k2 hl => by
    rw [sorted_unique (k1.trans hp) k2 hm]
    exact q l _ (fresh_back e2 hl) (e2.trans (Ex.new hl)) upd_same⟩
theorem el_sortedN {ns ms : List Int} (ha : EvL ta σ H (vi ns)) (hp : ns.Perm ms) (hm : ms.Pairwise (· ≤ ·)) : EvL (tCB (rSortedI K) (tCons ta tNil)) σ H (vi ms) := fun H1 e Q q =>
  ha H1 e _ fun p H2 hp2 e2 h2 => ⟨p, ns, rfl, sq_of h2, fun ns' l k1 k2 hl => by
    rw [sorted_unique (k1.trans hp) k2 hm]
    exact q l _ (fresh_back e2 hl) (e2.trans (Ex.new hl)) upd_same⟩
/-- all(..) of a new list of truths -/
theorem ev_allN {bs : List Bool} (ha : EvL ta σ H (bs.map V.bl)) : Ev (tCB (rAll K) (tCons ta tNil)) σ H (.bl (bs.all id)) := fun H1 e Q q =>
  ha H1 e _ fun p H2 hp2 e2 h2 => ⟨p, bs, rfl, sq_of h2, q H2 e2⟩
/-- a comprehension over a tuple -/
theorem el_lcT {a : Addr} {xs : List V} {j : Nat} {vs : List Nat} (f : Nat → Bool) (v : Nat → V) (h : Ev tl σ H (.ref a)) (hx : SqT K H a xs) (hz : xs.length ≤ 40000) (hw : ∀ x, wipe ((wipe σ vs).set j (some x)) vs = wipe σ vs)
    (ht : ∀ (i : Nat) (x : V) H1, Ex H H1 → xs[i]? = some x → EvT t ((wipe σ vs).set j (some x)) H1 (f i)) (he : ∀ (i : Nat) (x : V) H1, Ex H H1 → xs[i]? = some x → f i = true → Ev te ((wipe σ vs).set j (some x)) H1 (v i)) :
    EvL (tLc (iTup K tl) (gName j) t te vs) σ H (given xs.length f v) := fun H0 e Q q => h H0 e _ fun H1 e1 => ⟨a, rfl, ⟨xs, ex_t (e.trans e1) hx⟩, fun Dl hD =>
  lc_tup (xs := xs) (Cw H1 f v Dl) ⟨hD, Ex.new hD, upd_same⟩ (fun i H' _ p => ex_t ((e.trans e1).trans p.2.1) hx) (fun i x H' hi p => ⟨hw x, cw_turn p (by have := (List.getElem?_eq_some_iff.mp hi).1; omega) (ht i x H1 (e.trans e1) hi) (fun hf => he i x H1 (e.trans e1) hi hf)⟩)
    (fun H' p => q Dl H' (fresh_back e1 p.1) (e1.trans p.2.1) p.2.2)⟩
theorem rv_neLN {p q : Addr} {ns ms : List Int} (h : H p = some (.lst (vi ns))) (h' : H q = some (.lst (vi ms))) : RV (rNeD K) (.ref p) (.ref q) H (.bl (!decide (ns = ms))) := rv_neL (sq_of h) (sq_of h')
/-- both operands new -/
theorem ev_neLL {ns ms : List Int} (ha : EvL ta σ H (vi ns)) (hb : EvL tb σ H (vi ms)) : Ev (tOp (rNeD K) ta tb) σ H (.bl (!decide (ns = ms))) :=
  ev_opLL ha hb fun p q H1 hp hq _ => rv_neLN hp hq
theorem ev_eqLL {ns ms : List Int} (ha : EvL ta σ H (vi ns)) (hb : EvL tb σ H (vi ms)) : Ev (tOp (rEqD K) ta tb) σ H (.bl (decide (ns = ms))) :=
  ev_opLL ha hb fun p q H1 hp hq _ => rv_eqL (sq_of hp) (sq_of hq)
/-! shuffles -/
def iota (n : Nat) : List Int := (List.range n).map fun i : Nat => (i : Int)
theorem iota_length (n : Nat) : (iota n).length = n := by simp [iota]
theorem iota_sorted (n : Nat) : (iota n).Pairwise (· ≤ ·) := by
  unfold iota
  rw [List.pairwise_map]
  exact (List.pairwise_lt_range (n := n)).imp fun h => by omega
theorem rgV_iota (n : Nat) : rgV 0 (n : Int) = vi (iota n) := by
  unfold rgV iota vi
  rw [List.map_map]
  have e : ((n : Int) - 0).toNat = n := by omega
  rw [e]
  refine List.map_congr_left fun i _ => ?_
  show V.int (0 + (i : Int)) = V.int (i : Int)
  rw [Int.zero_add]
def Shf (ns : List Int) : Prop := 0 < ns.length ∧ ns.length ≤ 300 ∧ ns.Perm (iota ns.length)
theorem Shf.mem {ns : List Int} (h : Shf ns) {n : Int} (m : n ∈ ns) : 0 ≤ n ∧ n < ns.length := by
  have := h.2.2.mem_iff.mp m
  obtain ⟨i, hi, rfl⟩ := List.mem_map.mp this
  have := List.mem_range.mp hi
  omega
theorem Shf.nodup {ns : List Int} (h : Shf ns) : ns.Nodup := by
  refine h.2.2.symm.nodup ?_
  unfold iota
  show List.Pairwise _ _
  rw [List.pairwise_map]
  exact (List.nodup_range (n := ns.length)).imp fun h e => h (by omega)
theorem Shf.wide {ns : List Int} (h : Shf ns) : wide 1900 ns := (wide_lt (k := 20) (by decide) fun n m => by
  have := h.mem m
  have := h.2.1
  omega).mono (by decide)

theorem vi_erase (ns : List Int) (k : Nat) : (vi ns).eraseIdx k = vi (ns.eraseIdx k) := by
  unfold vi
  induction ns generalizing k with
  | nil => rfl
  | cons a r ih =>
    cases k with
    | zero => rfl
    | succ k =>
      show V.int a :: (r.map V.int).eraseIdx k = V.int a :: (r.eraseIdx k).map V.int
      rw [ih]
theorem vi_set (ns : List Int) (k : Nat) (x : Int) : (vi ns).set k (.int x) = vi (ns.set k x) := by
  unfold vi
  rw [List.map_set]
theorem vi_app (ns ms : List Int) : vi ns ++ vi ms = vi (ns ++ ms) := by
  unfold vi
  rw [List.map_append]
/-- a new tuple, with draws -/
def EvWU (a : Addr) (d : Nat) (te : TE) (σ : L2.St) (H : Hp) (P : List V → Prop) : Prop := ∀ (n : Nat) (H1 : Hp), But a H H1 → Well H1 a n → n + d ≤ 2 ^ 50 → ∀ Q : VK, (∀ p xs H2, H1 p = none → But a H1 H2 → Well H2 a (n + d) → H2 p = some (.tup xs) → P xs → Q (.ref p) H2) → te σ H1 Q
variable {a : Addr} {d d1 d2 n : Nat} {P P1 : List V → Prop}
theorem sw_asgU {i : Nat} (h : EvWU a d te σ H P) (w : Well H a n) (l : n + d ≤ 2 ^ 50) (k : ∀ p xs H1, H p = none → But a H H1 → Well H1 a (n + d) → H1 p = some (.tup xs) → P xs → D.nx (σ.set i (some (.ref p))) H1) : tAsg te (gName i) D σ H :=
  h n H (But.refl a H) w l _ fun p xs H2 hp b2 w2 h2 p => k _ xs H2 hp b2 w2 h2 p
theorem qw_asgU {i : Nat} (h : EvWU a d te σ H P) (w : Well H a n) (l : n + d ≤ 2 ^ 50) (k : ∀ p xs H1, H p = none → But a H H1 → Well H1 a (n + d) → H1 p = some (.tup xs) → P xs → tz D (σ.set i (some (.ref p))) H1) : tSeq (tAsg te (gName i)) tz D σ H :=
  sw_asgU (D := { D with nx := tz D }) h w l k
theorem sw_retU (h : EvWU a d te σ H P) (w : Well H a n) (l : n + d ≤ 2 ^ 50) (k : ∀ p xs H1, H p = none → But a H H1 → Well H1 a (n + d) → H1 p = some (.tup xs) → P xs → D.rt (.ref p) H1) : tRet te D σ H :=
  h n H (But.refl a H) w l _ fun p xs H2 hp b2 w2 h2 p => k _ xs H2 hp b2 w2 h2 p
/-! ### [e for x in xs for y in ys] of tuples -/
def flat2 (n m : Nat) (v : Nat → Nat → V) : List V := (List.range n).flatMap fun i => (List.range m).map (v i)
theorem flat2_succ (n m : Nat) (v : Nat → Nat → V) : flat2 (n + 1) m v = flat2 n m v ++ (List.range m).map (v n) := by
  unfold flat2
  rw [List.range_succ, List.flatMap_append, List.flatMap_singleton]
theorem flat2_length (n m : Nat) (v : Nat → Nat → V) : (flat2 n m v).length = n * m := by
  induction n with
  | zero => simp [flat2]
  | succ n ih => rw [flat2_succ, List.length_append, ih, List.length_map, List.length_range, Nat.succ_mul]
theorem yes_go {A B : Hp → Prop} (h : A H) : tYes σ H (fun b H3 => if b = true then A H3 else B H3) := by
  show (if true = true then A H else B H)
  rw [if_pos rfl]
  exact h
theorem el_lc2T {ti1 : TE} {b1 b2 : Addr} {xs ys : List V} {i j : Nat} {vs vs1 : List Nat} (v : Nat → Nat → V) (h : Ev tl σ H (.ref b1)) (hx : SqT K H b1 xs) (hy : SqT K H b2 ys)
    (h1 : ∀ x H1, Ex H H1 → Ev ti1 ((wipe σ vs).set i (some x)) H1 (.ref b2)) (hz : xs.length * ys.length ≤ 40000)
    (hw : ∀ x, wipe ((wipe σ vs).set i (some x)) vs = wipe σ vs) (hw1 : ∀ x y, wipe ((wipe ((wipe σ vs).set i (some x)) vs1).set j (some y)) vs1 = wipe ((wipe σ vs).set i (some x)) vs1)
    (he : ∀ (n m : Nat) (x y : V) H1, Ex H H1 → xs[n]? = some x → ys[m]? = some y → Ev te ((wipe ((wipe σ vs).set i (some x)) vs1).set j (some y)) H1 (v n m)) :
    EvL (tLc2 (iTup K tl) (gName i) tYes (iTup K ti1) (gName j) tYes te vs vs1) σ H (flat2 xs.length ys.length v) := fun H0 e Q q => h H0 e _ fun H1 e1 => by
  have e01 := e.trans e1
  refine ⟨b1, rfl, ⟨xs, ex_t e01 hx⟩, fun Dl hD => ?_⟩
  refine ⟨fun n m H => m = xs.length - n ∧ n ≤ xs.length ∧ Ex H1 H ∧ H Dl = some (.lst (flat2 n ys.length v)), ⟨xs.length, by simp, Nat.zero_le _, Ex.new hD, upd_same⟩, ?_⟩
  rintro n m H ⟨rfl, hn, e2, hd⟩
  have qx := ex_t (e01.trans e2) hx
  by_cases hlt : n < xs.length
  · refine .inr ⟨⟨xs, xs[n], qx, by simp [hlt]⟩, fun H' => Ex H1 H' ∧ H' Dl = some (.lst (flat2 (n + 1) ys.length v)), fun H' p' => ⟨xs.length - (n + 1), by omega, rfl, hlt, p'⟩, ?_⟩
    rintro x H' ⟨rfl, gx⟩
    have hxn := gx xs qx
    refine ⟨hw x, yes_go ?_⟩
    refine h1 x H' (e01.trans e2) H' (Ex.refl H') _ fun H4 e4 => ⟨b2, rfl, ⟨ys, ex_t ((e01.trans e2).trans e4) hy⟩, ?_⟩
    refine ⟨fun k m H => m = ys.length - k ∧ k ≤ ys.length ∧ Ex H1 H ∧ H Dl = some (.lst (flat2 n ys.length v ++ (List.range k).map (v n))), ⟨ys.length, by simp, Nat.zero_le _, e2.trans e4, by rw [e4 _ _ hd]; simp⟩, ?_⟩
    rintro k m H ⟨rfl, hk, e5, hd5⟩
    have qy := ex_t (e01.trans e5) hy
    by_cases hlk : k < ys.length
    · refine .inr ⟨⟨ys, ys[k], qy, by simp [hlk]⟩, fun H' => Ex H1 H' ∧ H' Dl = some (.lst (flat2 n ys.length v ++ (List.range (k + 1)).map (v n))), fun H' p' => ⟨ys.length - (k + 1), by omega, rfl, hlk, p'⟩, ?_⟩
      rintro y H' ⟨rfl, gy⟩
      refine ⟨hw1 x y, yes_go ?_⟩
      refine he n k x y H' (e01.trans e5) hxn (gy ys qy) H' (Ex.refl H') _ fun H6 e6 => ⟨_, e6 _ _ hd5, sz_lt ?_, Ex.mut (e5.trans e6) hD, ?_⟩
      · rw [List.length_append, flat2_length, List.length_map, List.length_range]
        have a1 : (n + 1) * ys.length ≤ xs.length * ys.length := Nat.mul_le_mul_right _ hlt
        rw [Nat.succ_mul] at a1
        omega
      · rw [upd_same, List.range_succ, List.map_append, List.append_assoc]
        rfl
    · have ek : k = ys.length := by omega
      subst ek
      refine .inl ⟨⟨ys, qy, Nat.le_refl _⟩, e5, ?_⟩
      rw [hd5, flat2_succ]
  · have en : n = xs.length := by omega
    subst en
    exact .inl ⟨⟨xs, qx, Nat.le_refl _⟩, q Dl H (fresh_back e1 hD) (e1.trans e2) hd⟩
/-- a new tuple as an argument -/
theorem eu_callU1 {sp : Sp} {xs zs : List V} {E : XK} (h : EvU ta σ H xs) (h2 : ∀ p H1, Ex H H1 → H1 p = some (.tup xs) → Ev tb σ H1 y) (hs : ∀ p H1, Ex H H1 → H1 p = some (.tup xs) → SpU sp [.ref p, y] H1 zs) : EvU (tCall sp [] E (tCons ta (tCons tb tNil))) σ H zs := fun H1 e Q q =>
  h H1 e _ fun p H2 hp e2 g2 => h2 p H2 (e.trans e2) g2 H2 (Ex.refl H2) _ fun H3 e3 => hs p H3 ((e.trans e2).trans e3) (e3 _ _ g2) H3 (Ex.refl H3) Q (fun r H4 hr e4 h4 => q r H4 (fresh_back (e2.trans e3) hr) ((e2.trans e3).trans e4) h4) E
theorem eu_callU2 {sp : Sp} {xs zs : List V} {E : XK} (h : Ev ta σ H x) (h2 : EvU tb σ H xs) (hs : ∀ p H1, Ex H H1 → H1 p = some (.tup xs) → SpU sp [x, .ref p] H1 zs) : EvU (tCall sp [] E (tCons ta (tCons tb tNil))) σ H zs := fun H1 e Q q =>
  h H1 e _ fun H2 e2 => h2 H2 (e.trans e2) _ fun p H3 hp e3 g3 => hs p H3 ((e.trans e2).trans e3) g3 H3 (Ex.refl H3) Q (fun r H4 hr e4 h4 => q r H4 (fresh_back (e2.trans e3) hr) ((e2.trans e3).trans e4) h4) E
end
end Bk
namespace Bk
open PySem PySem.Spec PyProof.Rows L2 Evl
/-! ### where built-in names stand; rules with the written part named -/
theorem bt_len : bootBuiltins "len" = some (.builtin "len") := by decide +kernel
theorem bt_abs : bootBuiltins "abs" = some (.builtin "abs") := by decide +kernel
theorem bt_max : bootBuiltins "max" = some (.builtin "max") := by decide +kernel
theorem bt_min : bootBuiltins "min" = some (.builtin "min") := by decide +kernel
theorem bt_sum : bootBuiltins "sum" = some (.builtin "sum") := by decide +kernel
theorem bt_sorted : bootBuiltins "sorted" = some (.builtin "sorted") := by decide +kernel
theorem bt_all : bootBuiltins "all" = some (.builtin "all") := by decide +kernel
theorem bt_any : bootBuiltins "any" = some (.builtin "any") := by decide +kernel
theorem bt_repr : bootBuiltins "repr" = some (.builtin "repr") := by decide +kernel
theorem bt_isinstance : bootBuiltins "isinstance" = some (.builtin "isinstance") := by decide +kernel
theorem bt_str : bootBuiltins "str" = some (.type "str") := by decide +kernel
section
variable {X : Cx} {K : PySem.W.Frag}
theorem call_lenK (h : X.K = K) : CallR X (.builtin "len") (rLenS K) := by
  subst h
  exact call_len_seq
theorem cr_sumK (h : X.K = K) (hc : X.calm = true) : CallR X (.builtin "sum") (rSum K) := by
  subst h
  exact cr_sum hc
theorem cr_allK (h : X.K = K) (hc : X.calm = true) : CallR X (.builtin "all") (rAll K) := by
  subst h
  exact cr_all hc
theorem call_listK (h : X.K = K) : CallR X (.type "list") (fun xs H Q => ∃ p ys, xs = [.ref p] ∧ (SqL K H p ys ∨ SqT K H p ys) ∧ ∀ l, H l = none → Q (.ref l) (upd H l (.lst ys))) := by
  subst h
  exact call_list_of
theorem call_tupleK (h : X.K = K) : CallR X (.type "tuple") (rTupOf K) := by
  subst h
  exact call_tuple_of
theorem call_reprK (h : X.K = K) (hg : X.A.guards = some []) (hu : X.A.units + 64 < cLine) : CallR X (.builtin "repr") (rRepr K) := by
  subst h
  exact call_repr hg hu
theorem call_isiK' (h : X.K = K) : CallR X (.builtin "isinstance") (rIsi K) := by
  subst h
  exact call_isi
theorem ix_listK (h : X.K = K) : IxR X (rIxL K) := by
  subst h
  exact ix_list
theorem ix_tupK (h : X.K = K) : IxR X (rIxT K) := by
  subst h
  exact ix_tup
theorem sl_listK (h : X.K = K) : SlR X (rSlL K) := by
  subst h
  exact sl_list
theorem op_eqDK (h : X.K = K) (hu : X.A.units + 64 < cLine) : OpR X (compareOp .Eq) (rEqD K) := by
  subst h
  exact op_eqD hu
theorem op_neDK (h : X.K = K) (hu : X.A.units + 64 < cLine) : OpR X (compareOp .NotEq) (rNeD K) := by
  subst h
  exact op_neD hu
theorem pi_listK {tg e : Expr} {te : TE} (h : X.K = K) (he : PE X e te) : PI X tg e (iList K te) := by
  subst h
  exact pi_list he
theorem pi_tupK {tg e : Expr} {te : TE} (h : X.K = K) (he : PE X e te) : PI X tg e (iTup K te) := by
  subst h
  exact pi_tup he
end
end Bk
namespace Bk
open PySem PySem.Spec PyProof.Rows L2 Evl
/-! ### a list of the numbers below its length, each once -/
theorem len_le {n : Nat} : ∀ {l : List Int}, l.Nodup → (∀ x ∈ l, 0 ≤ x ∧ x < n) → l.length ≤ n := by
  induction n with
  | zero =>
    intro l _ h
    cases l with
    | nil => exact Nat.le_refl _
    | cons a r =>
      have := h a List.mem_cons_self
      omega
  | succ n ih =>
    intro l hn h
    have h1 := ih (l := l.erase (n : Int)) (hn.erase _) fun x hx => by
      have m := hn.mem_erase_iff.mp hx
      have := h x m.2
      have := m.1
      omega
    rw [List.length_erase] at h1
    split at h1 <;> omega
theorem perm_iota {n : Nat} : ∀ {l : List Int}, l.Nodup → (∀ x ∈ l, 0 ≤ x ∧ x < n) → l.length = n → l.Perm (iota n) := by
  induction n with
  | zero =>
    intro l _ _ hl
    have : l = [] := List.length_eq_zero_iff.mp hl
    subst this
    exact List.Perm.refl _
  | succ n ih =>
    intro l hn h hl
    have hm : (n : Int) ∈ l := by
      refine Classical.byContradiction fun c => ?_
      have := len_le (n := n) hn fun x hx => by
        have := h x hx
        have : x ≠ (n : Int) := fun e => c (e ▸ hx)
        omega
      omega
    have p := List.perm_cons_erase hm
    have h1 := ih (l := l.erase (n : Int)) (hn.erase _) (fun x hx => by
      have m := hn.mem_erase_iff.mp hx
      have := h x m.2
      have := m.1
      omega) (by
      have := p.length_eq
      rw [List.length_cons] at this
      omega)
    have e : iota (n + 1) = iota n ++ [(n : Int)] := by
      unfold iota
      rw [List.range_succ, List.map_append]
      rfl
    rw [e]
    exact p.trans ((List.Perm.cons _ h1).trans (List.perm_append_comm (l₁ := [(n : Int)]) (l₂ := iota n)))
section
variable {K : PySem.W.Frag} {σ : L2.St} {H H' : Hp} {ta tb te tl ti : TE} {t u : TT} {x y z v : V} {D : Ends} {tu tz : TS} {a : Addr} {d d1 d2 n : Nat} {P P1 P2 : V → Prop}
/-- t + u of tuples -/
theorem eu_catT {p : Addr} {xs ys : List V} (ha : Ev ta σ H (.ref p)) (hb : EvU tb σ H ys) (h : SqT K H p xs) (h0 : xs ≠ []) (h1 : ys ≠ []) (hz : xs.length + ys.length ≤ 100000) : EvU (tOp (rCatT K) ta tb) σ H (xs ++ ys) := fun H1 e Q k =>
  ha H1 e _ fun H2 e2 => hb H2 (e.trans e2) _ fun r H3 hr e3 h3 => ⟨p, r, xs, ys, rfl, rfl, ex_t ((e.trans e2).trans e3) h, st_of h3, h0, sz_of hz, fun c => (h1 c).elim, fun _ l hl => k l _ (fresh_back (e2.trans e3) hl) ((e2.trans e3).trans (Ex.new hl)) upd_same⟩
theorem op_catTK {X : Cx} (h : X.K = K) : OpR X (binaryOp .Add) (rCatT K) := by
  subst h
  exact op_catT
/-! arguments with draws -/
def EvWA (a : Addr) (d : Nat) (te : TA) (σ : L2.St) (H : Hp) (P : List V → Prop) : Prop := ∀ (n : Nat) (H1 : Hp), But a H H1 → Well H1 a n → n + d ≤ 2 ^ 50 → ∀ Q : List V → Hp → Prop, (∀ vs H2, But a H1 H2 → Well H2 a (n + d) → P vs → Q vs H2) → te σ H1 Q
theorem ewa_nil : EvWA a 0 tNil σ H (fun vs => vs = []) := fun n H1 b w l Q q => q [] H1 (But.refl a H1) w rfl
theorem ewa_cons {tr : TA} {PL : List V → Prop} (h : EvW a d1 te σ H P) (hr : EvWA a d2 tr σ H PL) : EvWA a (d1 + d2) (tCons te tr) σ H (fun vs => ∃ x xs, vs = x :: xs ∧ P x ∧ PL xs) := fun n H1 b w l Q q =>
  h n H1 b w (by omega) _ fun x H2 b2 w2 px => hr (n + d1) H2 (b.trans b2) w2 (by omega) _ fun xs H3 b3 w3 pl => q _ H3 (b2.trans b3) (by
    rw [← Nat.add_assoc]
    exact w3) ⟨x, xs, rfl, px, pl⟩
theorem ewl_lst {t : TA} {PL : List V → Prop} (h : EvWA a d t σ H PL) (hz : ∀ xs, PL xs → xs.length ≤ 100000) : EvWL a d (tLst t) σ H PL := fun n H1 b w l Q q =>
  h n H1 b w l _ fun xs H2 b2 w2 pl => ⟨sz_of (hz xs pl), fun p hp => q p xs _ (but_free b2 w2 hp) (b2.trans (But.new hp)) (w2.ex (Ex.new hp)) upd_same pl⟩
theorem ew_ixW {PL : List V → Prop} (hl : EvWL a d1 tl σ H PL) (hi : EvW a d2 ti σ H P) (hP : ∀ xs v, PL xs → P v → ∃ (i : Int) (x : V), v = .int i ∧ atI xs i = some x ∧ P1 x) : EvW a (d1 + d2) (tOp (rIxL K) tl ti) σ H P1 := fun n H1 b w l Q q =>
  hl n H1 b w (by omega) _ fun p xs H2 hp b2 w2 h2 px => hi (n + d1) H2 (b.trans b2) w2 (by omega) _ fun v H3 b3 w3 pv => by
    obtain ⟨i, x, rfl, hx, px'⟩ := hP xs v px pv
    rw [Nat.add_assoc] at w3
    exact ⟨p, xs, i, x, rfl, rfl, sq_of (b3 p _ (w.ne hp) h2), hx, q x H3 (b2.trans b3) w3 px'⟩
theorem ew_weak (h : EvW a d te σ H P) (l : d ≤ d1) : EvW a d1 te σ H P := fun n H1 b w hl Q q => h n H1 b w (by omega) Q fun v H2 b2 w2 p => q v H2 b2 (w2.mono (by omega)) p
theorem ew_if {b : Bool} (ht : EvT t σ (hid a H) b) (h1 : b = true → EvW a d ta σ H P) (h2 : b = false → EvW a d tb σ H P) : EvW a d (tIf t ta tb) σ H P := fun n H1 bt w l Q q =>
  ht H1 (ex_hid bt) _ fun H2 e2 => by
    have q' : ∀ v H3, But a H2 H3 → Well H3 a (n + d) → P v → Q v H3 := fun v H3 b3 w3 p => q v H3 ((But.ex e2).trans b3) w3 p
    cases b with
    | true => exact iteT (h1 rfl n H2 (bt.trans (But.ex e2)) (w.ex e2) l Q q')
    | false => exact iteF (h2 rfl n H2 (bt.trans (But.ex e2)) (w.ex e2) l Q q')
/-! range(a, b, c) upwards -/
theorem RgC.up {j c : Int} (h0 : 0 ≤ j) (h1 : j ≤ 100000) (c0 : 0 < c) (c1 : c ≤ 100000) : ∃ n : Nat, RgC 0 j c n ∧ ∀ k : Nat, k < n → (k : Int) * c < j := by
  have hs : Builtin.Range.rangeSize 0 j c = (if 0 < j then (j - 0 - 1) / c + 1 else 0) := by
    unfold Builtin.Range.rangeSize
    rw [if_pos c0]
  have hd0 : 0 < j → 0 ≤ (j - 0 - 1) / c := fun h => Int.ediv_nonneg (by omega) (by omega)
  have hd1 : 0 < j → (j - 0 - 1) / c ≤ j - 0 - 1 := fun h => Int.ediv_le_self _ (by omega)
  refine ⟨(if 0 < j then (j - 0 - 1) / c + 1 else 0).toNat, ⟨by omega, by omega, ?_, ?_⟩, ?_⟩
  · unfold Builtin.Range.small
    rw [hs]
    simp only [Builtin.Range.rangeFitsLong, Bool.and_eq_true, Bool.or_eq_true, decide_eq_true_eq, beq_iff_eq, if_pos c0]
    by_cases hj : 0 < j
    · have := hd0 hj
      have := hd1 hj
      rw [if_pos hj]
      omega
    · rw [if_neg hj]
      omega
  · rw [hs, Int.toNat_of_nonneg]
    split
    · have := hd0 (by assumption)
      omega
    · omega
  · intro k hk
    by_cases hj : 0 < j
    · rw [if_pos hj] at hk
      have h2 : (k : Int) ≤ (j - 0 - 1) / c := by
        have := hd0 hj
        omega
      have := (Int.le_ediv_iff_mul_le c0).mp h2
      omega
    · rw [if_neg hj] at hk
      exact absurd hk (Nat.not_lt_zero _)
theorem q_forR3 {ta : TA} {i : Nat} {j c : Int} (h : EvA ta σ H [.int 0, .int j, .int c]) (h0 : 0 ≤ j) (h1 : j ≤ 100000) (c0 : 0 < c) (c1 : c ≤ 100000) (Pv : Nat → L2.St → Hp → Prop) (hp0 : ∀ H1, Ex H H1 → Pv 0 σ H1)
    (hs : ∀ (k : Nat) σ' H', (k : Int) * c < j → Pv k σ' H' → tu { D with nx := Pv (k + 1), ct := Pv (k + 1), bk := tz D } (σ'.set i (some (.int ((k : Int) * c)))) H') (hd : ∀ k σ' H', Pv k σ' H' → tz D σ' H') : tSeq (tFor (iRng3 ta) (gName i) tu) tz D σ H := by
  obtain ⟨n, hr, hn⟩ := RgC.up h0 h1 c0 c1
  refine h H (Ex.refl H) _ fun H1 e1 => ⟨0, j, c, n, rfl, hr, for_rangeC (lo := 0) (c := c) (n := n) Pv (hp0 H1 e1) (fun k σ' H' hk p => ?_) fun σ' H' p => hd n σ' H' p⟩
  have e0 : (0 : Int) + (k : Int) * c = (k : Int) * c := Int.zero_add _
  show tu { D with nx := Pv (k + 1), ct := Pv (k + 1), bk := tz D } (σ'.set i (some (.int ((0 : Int) + (k : Int) * c)))) H'
  rw [e0]
  exact hs k σ' H' (hn k hk) p
/-- three new tuples, drawn -/
theorem qw_par3U {i j l : Nat} {tc : TE} {d3 : Nat} {PA PB PC : List V → Prop} (h1 : EvWU a d1 ta σ H PA) (h2 : EvWU a d2 tb σ H PB) (h3 : EvWU a d3 tc σ H PC) (w : Well H a n) (hl : n + (d1 + d2 + d3) ≤ 2 ^ 50)
    (k : ∀ p q r xs ys zs H1, H p = none → H q = none → H r = none → But a H H1 → Well H1 a (n + (d1 + d2 + d3)) → H1 p = some (.tup xs) → H1 q = some (.tup ys) → H1 r = some (.tup zs) → PA xs → PB ys → PC zs →
      tz D (((σ.set i (some (.ref p))).set j (some (.ref q))).set l (some (.ref r))) H1) : tSeq (tPar3 i j l (tCons ta (tCons tb (tCons tc tNil)))) tz D σ H :=
  h1 n H (But.refl a H) w (by omega) _ fun p xs H2 hp b2 w2 g2 pa => h2 (n + d1) H2 b2 w2 (by omega) _ fun q ys H3 hq b3 w3 g3 pb => h3 (n + d1 + d2) H3 (b2.trans b3) w3 (by omega) _ fun r zs H4 hr b4 w4 g4 pc => by
    refine ⟨_, _, _, rfl, k p q r xs ys zs H4 hp (but_free b2 w2 hq) (but_free (b2.trans b3) w3 hr) ((b2.trans b3).trans b4) ?_ (b4 _ _ (w.ne hp) (b3 _ _ (w.ne hp) g2)) (b4 _ _ (w2.ne hq) g3) g4 pa pb pc⟩
    rw [show n + (d1 + d2 + d3) = n + d1 + d2 + d3 by omega]
    exact w4
theorem qw_par3L {i j l : Nat} {tc : TE} {d3 : Nat} {PA PB PC : List V → Prop} (h1 : EvWL a d1 ta σ H PA) (h2 : EvWL a d2 tb σ H PB) (h3 : EvWL a d3 tc σ H PC) (w : Well H a n) (hl : n + (d1 + d2 + d3) ≤ 2 ^ 50)
    (k : ∀ p q r xs ys zs H1, H p = none → H q = none → H r = none → But a H H1 → Well H1 a (n + (d1 + d2 + d3)) → H1 p = some (.lst xs) → H1 q = some (.lst ys) → H1 r = some (.lst zs) → PA xs → PB ys → PC zs →
      tz D (((σ.set i (some (.ref p))).set j (some (.ref q))).set l (some (.ref r))) H1) : tSeq (tPar3 i j l (tCons ta (tCons tb (tCons tc tNil)))) tz D σ H :=
  h1 n H (But.refl a H) w (by omega) _ fun p xs H2 hp b2 w2 g2 pa => h2 (n + d1) H2 b2 w2 (by omega) _ fun q ys H3 hq b3 w3 g3 pb => h3 (n + d1 + d2) H3 (b2.trans b3) w3 (by omega) _ fun r zs H4 hr b4 w4 g4 pc => by
    refine ⟨_, _, _, rfl, k p q r xs ys zs H4 hp (but_free b2 w2 hq) (but_free (b2.trans b3) w3 hr) ((b2.trans b3).trans b4) ?_ (b4 _ _ (w.ne hp) (b3 _ _ (w.ne hp) g2)) (b4 _ _ (w2.ne hq) g3) g4 pa pb pc⟩
    rw [show n + (d1 + d2 + d3) = n + d1 + d2 + d3 by omega]
    exact w4
end
end Bk
namespace Bk
open PySem PySem.Spec PyProof.Rows L2 Evl
/-! ### lists of lists of numbers -/
def up (r : List Nat) : List Int := r.map fun k : Nat => (k : Int)
theorem up_length (r : List Nat) : (up r).length = r.length := by simp [up]
def Nest (H : Hp) (qs : List Addr) (R : List (List Nat)) : Prop := qs.length = R.length ∧ ∀ (i : Nat) (q : Addr) (r : List Nat), qs[i]? = some q → R[i]? = some r → H q = some (.lst (vi (up r)))
section
variable {K : PySem.W.Frag} {σ : L2.St} {H H1 H' : Hp} {qs : List Addr} {R : List (List Nat)} {p q : Addr} {r : List Nat} {ta tb te tl : TE} {t u : TT} {x y z v : V} {D : Ends} {tu tw tz : TS}
theorem Nest.nil : Nest H [] [] := ⟨rfl, fun _ _ _ h => nomatch h⟩
theorem Nest.ex (h : Nest H qs R) (e : Ex H H1) : Nest H1 qs R := ⟨h.1, fun i q r a b => e _ _ (h.2 i q r a b)⟩
theorem Nest.but (h : Nest H qs R) (e : But p H H1) (n : ∀ q ∈ qs, q ≠ p) : Nest H1 qs R := ⟨h.1, fun i q r a b => e _ _ (n q (List.mem_of_getElem? a)) (h.2 i q r a b)⟩
theorem Nest.upd {o : HO} (h : Nest H qs R) (n : ∀ q ∈ qs, q ≠ p) : Nest (L2.upd H p o) qs R := ⟨h.1, fun i q r a b => by
  rw [upd_ne (n q (List.mem_of_getElem? a))]
  exact h.2 i q r a b⟩
theorem Nest.some (h : Nest H qs R) (hq : q ∈ qs) : ∃ o, H q = some o := by
  obtain ⟨i, hi, e⟩ := List.getElem_of_mem hq
  have hi' : i < R.length := h.1 ▸ hi
  exact ⟨_, h.2 i q R[i] (by rw [← e, List.getElem?_eq_getElem hi]) (List.getElem?_eq_getElem hi')⟩
theorem Nest.ne (_ : Nest H qs R) (h : Nest H1 qs R) (hq : q ∈ qs) (n : H1 p = none) : q ≠ p := fun e => by
  obtain ⟨o, ho⟩ := h.some hq
  rw [e, n] at ho
  cases ho
theorem Nest.put (h : Nest H qs R) (hq : H q = Option.some (.lst (vi (up r)))) : Nest H (qs ++ [q]) (R ++ [r]) := by
  refine ⟨by rw [List.length_append, List.length_append, h.1]; rfl, fun i q' r' a b => ?_⟩
  by_cases c : i < qs.length
  · rw [List.getElem?_append_left c] at a
    rw [List.getElem?_append_left (h.1 ▸ c)] at b
    exact h.2 i q' r' a b
  · rw [List.getElem?_append_right (by omega)] at a
    rw [List.getElem?_append_right (by have := h.1; omega)] at b
    rw [← h.1] at b
    match hi : i - qs.length, a, b with
    | 0, a, b =>
      cases a
      cases b
      exact hq
    | k + 1, a, b => cases a
theorem ne_of_none' {o : HO} {a b : Addr} (n : H a = none) (h : H b = some o) : a ≠ b := fun e => by
  rw [e, h] at n
  cases n
theorem rings_le {R : List (List Nat)} (h : ∀ r ∈ R, 0 < r.length) : R.length ≤ R.flatten.length := by
  induction R with
  | nil => exact Nat.le_refl _
  | cons a R ih =>
    rw [List.flatten_cons, List.length_append, List.length_cons]
    have := h a List.mem_cons_self
    have := ih fun r hr => h r (List.mem_cons_of_mem _ hr)
    omega
def RetN (R : List (List Nat)) (H : Hp) (Q : VK) : Prop := ∀ p qs H2, H p = none → Ex H H2 → H2 p = some (.lst (qs.map .ref)) → Nest H2 qs R → (∀ q ∈ qs, H q = none) → Q (.ref p) H2
def SpN (sp : Sp) (vs : List V) (H : Hp) (R : List (List Nat)) : Prop := ∀ H1, Ex H H1 → ∀ Q : VK, RetN R H1 Q → ∀ E : XK, sp vs H1 Q E
def EvN (te : TE) (σ : L2.St) (H : Hp) (R : List (List Nat)) : Prop := ∀ H1, Ex H H1 → ∀ Q : VK, RetN R H1 Q → te σ H1 Q
theorem en_call {sp : Sp} {vs : List V} {E : XK} {ta : TA} (h : EvA ta σ H vs) (hs : SpN sp vs H R) : EvN (tCall sp [] E ta) σ H R := fun H1 e Q q =>
  h H1 e _ fun H2 e2 => by
    have := hs H2 (e.trans e2) Q (fun p qs H3 hp e3 h3 n f => q p qs H3 (fresh_back e2 hp) (e2.trans e3) h3 n fun b hb => fresh_back e2 (f b hb)) E
    rw [← List.append_nil vs] at this
    exact this
/-- a comprehension over it -/
theorem el_lcN {j : Nat} {vs : List Nat} (f : Nat → Bool) (v : Nat → V) (h : EvN tl σ H R) (hz : R.length ≤ 40000) (hw : ∀ x, wipe ((wipe σ vs).set j (some x)) vs = wipe σ vs)
    (ht : ∀ (i : Nat) q r H1, Ex H H1 → R[i]? = some r → H1 q = some (.lst (vi (up r))) → EvT t ((wipe σ vs).set j (some (.ref q))) H1 (f i)) (he : ∀ (i : Nat) q r H1, Ex H H1 → R[i]? = some r → H1 q = some (.lst (vi (up r))) → f i = true → Ev te ((wipe σ vs).set j (some (.ref q))) H1 (v i)) :
    EvL (tLc (iList K tl) (gName j) t te vs) σ H (given R.length f v) := fun H0 e Q q => h H0 e _ fun a qs H1 ha e1 hx nq _ => ⟨a, rfl, ⟨qs.map .ref, sq_of hx⟩, fun Dl hD =>
  lc_list (xs := qs.map .ref) (Cw H1 f v Dl) ⟨hD, Ex.new hD, upd_same⟩ (fun i H' _ p => sq_of (p.2.1 a _ hx)) (fun i x H' hi p => by
    rw [List.getElem?_map] at hi
    cases g : qs[i]? with
    | none => rw [g] at hi; cases hi
    | some b =>
      rw [g] at hi
      cases hi
      have hl := (List.getElem?_eq_some_iff.mp g).1
      have hlr : i < R.length := nq.1 ▸ hl
      have hR : R[i]? = some R[i] := List.getElem?_eq_getElem hlr
      have hb := nq.2 i b _ g hR
      refine ⟨hw _, cw_turn p (by have := nq.1; omega) (ht i b _ H1 (e.trans e1) hR hb) (fun hf => he i b _ H1 (e.trans e1) hR hb hf)⟩)
    (fun H' p => q Dl H' (fresh_back e1 p.1) (e1.trans p.2.1) (by
      have := p.2.2
      rw [List.length_map, nq.1] at this
      exact this))⟩
/-- a loop over it -/
theorem s_forN {j : Nat} (h : EvN tl σ H R) (Pv : Addr → List Addr → Nat → L2.St → Hp → Prop) (h0 : ∀ p qs H1, H p = none → Ex H H1 → H1 p = some (.lst (qs.map .ref)) → Nest H1 qs R → (∀ q ∈ qs, H q = none) → Pv p qs 0 σ H1)
    (hl : ∀ p qs i σ' H', i ≤ R.length → Pv p qs i σ' H' → H' p = some (.lst (qs.map .ref)) ∧ Nest H' qs R)
    (hs : ∀ p qs i q r σ' H', R[i]? = some r → H' q = some (.lst (vi (up r))) → q ∈ qs → Pv p qs i σ' H' → tu { D with nx := Pv p qs (i + 1), ct := Pv p qs (i + 1), bk := D.nx } (σ'.set j (some (.ref q))) H') (hd : ∀ p qs σ' H', Pv p qs R.length σ' H' → D.nx σ' H') : tFor (iList K tl) (gName j) tu D σ H :=
  h H (Ex.refl H) _ fun p qs H1 hp e h1 nq fq => ⟨p, rfl, ⟨qs.map .ref, sq_of h1⟩, for_list (Pv p qs) (h0 p qs H1 hp e h1 nq fq) (fun i σ' H' hi k => sq_of (hl p qs i σ' H' (by rw [List.length_map, nq.1] at hi; exact hi) k).1) (fun i x σ' H' hx k => by
    rw [List.getElem?_map] at hx
    cases g : qs[i]? with
    | none => rw [g] at hx; cases hx
    | some b =>
      rw [g] at hx
      cases hx
      have hlt := (List.getElem?_eq_some_iff.mp g).1
      have hlr : i < R.length := nq.1 ▸ hlt
      have hR : R[i]? = some R[i] := List.getElem?_eq_getElem hlr
      exact hs p qs i b _ σ' H' hR ((hl p qs i σ' H' (Nat.le_of_lt hlr) k).2.2 i b _ g hR) (List.mem_of_getElem? g) k) (fun σ' H' k => hd p qs σ' H' (by rw [List.length_map, nq.1] at k; exact k))⟩
theorem q_forN {j : Nat} (h : EvN tl σ H R) (Pv : Addr → List Addr → Nat → L2.St → Hp → Prop) (h0 : ∀ p qs H1, H p = none → Ex H H1 → H1 p = some (.lst (qs.map .ref)) → Nest H1 qs R → (∀ q ∈ qs, H q = none) → Pv p qs 0 σ H1)
    (hl : ∀ p qs i σ' H', i ≤ R.length → Pv p qs i σ' H' → H' p = some (.lst (qs.map .ref)) ∧ Nest H' qs R)
    (hs : ∀ p qs i q r σ' H', R[i]? = some r → H' q = some (.lst (vi (up r))) → q ∈ qs → Pv p qs i σ' H' → tu { D with nx := Pv p qs (i + 1), ct := Pv p qs (i + 1), bk := tz D } (σ'.set j (some (.ref q))) H') (hd : ∀ p qs σ' H', Pv p qs R.length σ' H' → tz D σ' H') : tSeq (tFor (iList K tl) (gName j) tu) tz D σ H :=
  s_forN (D := { D with nx := tz D }) h Pv h0 hl hs hd
end
end Bk
namespace Bk
open PySem PySem.Spec PyProof.Rows L2 Evl
/-! ### tests and calls with drawn parts -/
def EvWT (a : Addr) (d : Nat) (t : TT) (σ : L2.St) (H : Hp) (b : Bool) : Prop := ∀ (n : Nat) (H1 : Hp), But a H H1 → Well H1 a n → n + d ≤ 2 ^ 50 → ∀ Q : Bool → Hp → Prop, (∀ H2, But a H1 H2 → Well H2 a (n + d) → Q b H2) → t σ H1 Q
section
variable {K : PySem.W.Frag} {σ : L2.St} {H : Hp} {ta tb te ti tl : TE} {t u : TT} {a : Addr} {d d1 d2 n : Nat} {P P1 P2 : V → Prop} {v x y : V} {b : Bool} {D : Ends} {tu tw tz : TS} {sp : Sp} {E : XK}
theorem ewt_test (h : EvW a d te σ H (fun v => v = .bl b)) : EvWT a d (tTest te) σ H b := fun n H1 bt w l Q q => h n H1 bt w l _ fun v H2 b2 w2 e => ⟨b, e, q H2 b2 w2⟩
theorem ewt_B (h : EvW a d te σ H (fun v => v = .bl b)) : EvWT a d (tB te) σ H b := fun n H1 bt w l Q q => h n H1 bt w l _ fun v H2 b2 w2 e => ⟨b, e, q H2 b2 w2⟩
theorem ewt_not {c : Bool} (h : EvWT a d t σ H c) : EvWT a d (tNot t) σ H (!c) := fun n H1 bt w l Q q => h n H1 bt w l _ fun H2 b2 w2 => q H2 b2 w2
theorem qw_when (h : EvWT a d t σ H b) (w : Well H a n) (l : n + d ≤ 2 ^ 50) (k1 : b = true → ∀ H1, But a H H1 → Well H1 a (n + d) → tu { D with nx := tz D } σ H1) (k2 : b = false → ∀ H1, But a H H1 → Well H1 a (n + d) → tw { D with nx := tz D } σ H1) : tSeq (tIfS t tu tw) tz D σ H :=
  h n H (But.refl a H) w l _ fun H2 b2 w2 => by
    cases b with
    | true => exact iteT (k1 rfl H2 b2 w2)
    | false => exact iteF (k2 rfl H2 b2 w2)
theorem sw_when (h : EvWT a d t σ H b) (w : Well H a n) (l : n + d ≤ 2 ^ 50) (k1 : b = true → ∀ H1, But a H H1 → Well H1 a (n + d) → tu D σ H1) (k2 : b = false → ∀ H1, But a H H1 → Well H1 a (n + d) → tw D σ H1) : tIfS t tu tw D σ H :=
  h n H (But.refl a H) w l _ fun H2 b2 w2 => by
    cases b with
    | true => exact iteT (k1 rfl H2 b2 w2)
    | false => exact iteF (k2 rfl H2 b2 w2)
theorem sw_ret (h : EvW a d te σ H P) (w : Well H a n) (l : n + d ≤ 2 ^ 50) (k : ∀ v H1, But a H H1 → Well H1 a (n + d) → P v → D.rt v H1) : tRet te D σ H := h n H (But.refl a H) w l _ k
/-- f(drawn tuple) -/
theorem ew_callU {PU : List V → Prop} (h : EvWU a d te σ H PU) (hs : ∀ p xs H1, H1 p = some (.tup xs) → PU xs → SpV sp [.ref p] H1 v) : EvW a d (tCall sp [] E (tCons te tNil)) σ H (fun z => z = v) := fun n H1 bt w l Q q =>
  h n H1 bt w l _ fun p xs H2 hp b2 w2 h2 pu => hs p xs H2 h2 pu H2 (Ex.refl H2) Q (fun H3 e3 => q v H3 (b2.trans (But.ex e3)) (w2.ex e3) rfl) E
theorem ew_callUV {PU : List V → Prop} (h : EvWU a d1 te σ H PU) (h' : EvW a d2 ti σ H P) (hs : ∀ p xs x H1, H1 p = some (.tup xs) → PU xs → P x → SpV sp [.ref p, x] H1 v) : EvW a (d1 + d2) (tCall sp [] E (tCons te (tCons ti tNil))) σ H (fun z => z = v) := fun n H1 bt w l Q q =>
  h n H1 bt w (by omega) _ fun p xs H2 hp b2 w2 h2 pu => h' (n + d1) H2 (bt.trans b2) w2 (by omega) _ fun x H3 b3 w3 px => hs p xs x H3 (b3 _ _ (w.ne hp) h2) pu px H3 (Ex.refl H3) Q (fun H4 e4 => q v H4 ((b2.trans b3).trans (But.ex e4)) (by
    have := w3.ex e4
    rw [Nat.add_assoc] at this
    exact this) rfl) E
/-- draw > 0 or f(..) -/
theorem ew_orV {c : Bool} (h1 : EvW a d1 ta σ H (fun v => ∃ b, v = .bl b)) (h2 : EvW a d2 tb σ H (fun v => v = .bl true)) : EvW a (d1 + d2) (tOrV ta tb) σ H (fun v => v = .bl true) := fun n H1 bt w l Q q =>
  h1 n H1 bt w (by omega) _ fun v H2 b2 w2 ⟨b, e⟩ => ⟨b, e, by
    cases b with
    | true => exact iteT (q _ H2 b2 (w2.mono (by omega)) rfl)
    | false => exact iteF (h2 (n + d1) H2 (bt.trans b2) w2 (by omega) Q fun v H3 b3 w3 e => q v H3 (b2.trans b3) (by
        rw [Nat.add_assoc] at w3
        exact w3) e)⟩
theorem ew_gt {P1 P2 : Int → Prop} (h1 : EvW a d1 ta σ H (fun v => ∃ r, v = .int r ∧ P1 r)) (h2 : EvW a d2 tb σ H (fun v => ∃ r, v = .int r ∧ P2 r)) : EvW a (d1 + d2) (tOp (rI0 fun i j => .bl (decide (j < i))) ta tb) σ H (fun v => ∃ b, v = .bl b) :=
  ew_op h1 h2 fun x y ⟨i, ei, p⟩ ⟨j, ej, p'⟩ => ⟨.bl (decide (j < i)), fun H => by
    rw [ei, ej]
    exact rv_b rfl, _, rfl⟩
theorem ew_sub {P1 P2 P : Int → Prop} (h1 : EvW a d1 ta σ H (fun v => ∃ r, v = .int r ∧ P1 r)) (h2 : EvW a d2 tb σ H (fun v => ∃ r, v = .int r ∧ P2 r)) (h : ∀ x y, P1 x → P2 y → P (x - y)) :
    EvW a (d1 + d2) (tOp (rI0 fun i j => .int (i - j)) ta tb) σ H (fun v => ∃ r, v = .int r ∧ P r) :=
  ew_op h1 h2 fun x y ⟨i, ei, p⟩ ⟨j, ej, p'⟩ => ⟨.int (i - j), fun H => by
    rw [ei, ej]
    exact rv_I0, i - j, rfl, h i j p p'⟩
end
section
variable {K : PySem.W.Frag} {σ : L2.St} {H : Hp} {ta tb : TE} {D : Ends} {tz : TS}
/-- x, y = ([..], [..]) by a tuple -/
theorem q_tupLL {i j : Nat} {xs ys : List V} (h1 : EvL ta σ H xs) (h2 : ∀ p H1, H p = none → Ex H H1 → H1 p = some (.lst xs) → EvL tb σ H1 ys) (k : ∀ p q H1, H p = none → H q = none → p ≠ q → Ex H H1 → H1 p = some (.lst xs) → H1 q = some (.lst ys) → tz D ((σ.set i (some (.ref p))).set j (some (.ref q))) H1) :
    tSeq (tAsg (tTup (tCons ta (tCons tb tNil))) (gTup K 2 (gCons (gName i) (gCons (gName j) gNil)))) tz D σ H :=
  h1 H (Ex.refl H) _ fun p H2 hp e2 g2 => h2 p H2 hp e2 g2 H2 (Ex.refl H2) _ fun q H3 hq e3 g3 => ⟨sz_of (by show 2 ≤ 100000; decide), fun r hr => ⟨r, _, rfl, st_of upd_same, rfl, _, _, rfl, _, _, rfl, rfl, k p q _ hp (fresh_back e2 hq) (ne_of_none g2 hq) ((e2.trans e3).trans (Ex.new hr)) (Ex.new hr _ _ (e3 _ _ g2)) (Ex.new hr _ _ g3)⟩⟩
end
/-! ### lists picked -/
theorem given_filter (xs : List Int) (p : Int → Bool) : given xs.length (fun j => p (xs.getD j 0)) (fun j => V.int (xs.getD j 0)) = vi (xs.filter p) := by
  have e : xs = (List.range xs.length).map fun j => xs.getD j 0 := by
    refine List.ext_getElem? fun i => ?_
    rw [List.getElem?_map]
    by_cases hi : i < xs.length
    · rw [List.getElem?_range hi, List.getElem?_eq_getElem hi]
      show _ = some (xs.getD i 0)
      rw [List.getD_eq_getElem?_getD, List.getElem?_eq_getElem hi]
      rfl
    · rw [List.getElem?_eq_none (by omega), List.getElem?_eq_none (by rw [List.length_range]; omega)]
      rfl
  have e2 : xs.filter p = ((List.range xs.length).filter fun j => p (xs.getD j 0)).map fun j => xs.getD j 0 := by
    conv => lhs; rw [e]
    rw [List.filter_map]
    rfl
  unfold given vi
  rw [e2, List.map_map]
  rfl
theorem perm_sum {xs ys : List Int} (h : xs.Perm ys) : xs.sum = ys.sum := by
  induction h with
  | nil => rfl
  | cons x _ ih => rw [List.sum_cons, List.sum_cons, ih]
  | swap x y l => simp only [List.sum_cons]; omega
  | trans _ _ a b => exact a.trans b
end Bk
namespace Bk
open PySem PySem.Spec PyProof.Rows L2 Evl
/-! ### xs.count(k) -/
def rLCount : V → List V → Hp → VK → Prop := fun x vs H Q => ∃ l ns k, x = .ref l ∧ vs = [.int k] ∧ H l = some (.lst (vi ns)) ∧ Q (.int (ns.count k : Nat)) H
theorem mt_lcount {X : Cx} : MtM X "list.count" rLCount := by
  intro pins s σ H x vs v us Q I rx rv h
  obtain ⟨l, ns, k, rfl, rfl, hH, q⟩ := h
  cases rx
  obtain ⟨u, rfl, ru⟩ := rv.one
  obtain ⟨t, rfl⟩ := ru
  obtain ⟨z, its, n, r, hl, e⟩ := I.lstM hH
  exact count_list_ints ⟨_, e, rfl, n, rfl⟩ r.ints ⟨.int (ns.count k : Nat), H, I.tok _, ⟨_, rfl⟩, q⟩
section
variable {K : PySem.W.Frag} {σ : L2.St} {H : Hp} {ta tb : TE}
theorem ev_lcount {l : Addr} {ns : List Int} {k : Int} (ha : Ev ta σ H (.ref l)) (h : H l = some (.lst (vi ns))) (hb : Ev tb σ H (.int k)) : Ev (tBM K "list" rLCount ta (tCons tb tNil)) σ H (.int ((ns.count k : Nat) : Int)) := fun H1 e Q q =>
  ha H1 e _ fun H2 e2 => ⟨Or.inl ⟨rfl, _, sq_of ((e.trans e2) _ _ h)⟩, hb H2 (e.trans e2) _ fun H3 e3 => ⟨l, ns, k, rfl, rfl, ((e.trans e2).trans e3) _ _ h, q H3 (e2.trans e3)⟩⟩
variable {tb' : TE} {D : Ends}
theorem s_parVV {i j : Nat} {x y : V} (h1 : Ev ta σ H x) (h2 : Ev tb σ H y) (k : ∀ H1, Ex H H1 → D.nx ((σ.set i (some x)).set j (some y)) H1) :
    tPar i j (tCons ta (tCons tb tNil)) D σ H :=
  h1 H (Ex.refl H) _ fun H2 e2 => h2 H2 e2 _ fun H3 e3 => ⟨_, _, rfl, k H3 (e2.trans e3)⟩
end
end Bk
namespace Bk
open PySem PySem.Spec PyProof.Rows L2 Evl
section
variable {K : PySem.W.Frag} {σ : L2.St} {H : Hp} {ta tb : TE}
theorem el_listT {p : Addr} {xs : List V} (ha : Ev ta σ H (.ref p)) (h : SqT K H p xs) : EvL (tCB (rListS K) (tCons ta tNil)) σ H xs := fun H1 e Q q =>
  ha H1 e _ fun H2 e2 => ⟨p, xs, rfl, Or.inr (ex_t (e.trans e2) h), fun l hl => q l _ (fresh_back e2 hl) (e2.trans (Ex.new hl)) upd_same⟩
theorem eu_rg1 {n : Int} (ha : Ev ta σ H (.int n)) (h0 : 0 ≤ n) (hn : n ≤ 100000) : EvU (tTupRg (tRg1 ta)) σ H (rgV 0 n) := fun H1 e Q q =>
  ha H1 e _ fun H2 e2 => ⟨n, rfl, RgOk.of_le (by omega) (by omega) (by omega) h0, fun l hl => q l _ (fresh_back e2 hl) (e2.trans (Ex.new hl)) upd_same⟩
theorem ev_neg {i : Int} (ha : Ev ta σ H (.int i)) : Ev (tUn (rU fun i => .int (-i)) ta) σ H (.int (-i)) := fun H1 e Q q => ha H1 e _ fun H2 e2 => ⟨i, rfl, q H2 e2⟩
end
end Bk
namespace My
open PySem PySem.Spec PyProof.Rows L2 Evl Bk

/-! ### rings in drawn places -/
theorem cut_mid {xs : List V} {a l : Nat} (h : a + l ≤ xs.length) : cutV xs (some (a : Int)) (some ((a : Int) + (l : Int))) = (xs.drop a).take l := by
  unfold cutV
  rw [show (a : Int) + (l : Int) = ((a + l : Nat) : Int) by omega, HT.sIx_nat, HT.sIx_nat, Nat.min_eq_left h, Nat.min_eq_left (show a ≤ xs.length by omega)]
  congr 1
  omega
theorem erase_perm {ps : List Int} {k : Nat} (h : k < ps.length) : (ps[k] :: ps.eraseIdx k).Perm ps := by
  induction ps generalizing k with
  | nil => exact absurd h (Nat.not_lt_zero _)
  | cons a r ih =>
    cases k with
    | zero => exact List.Perm.refl _
    | succ k =>
      have hk : k < r.length := by simpa using h
      have := ih (k := k) hk
      exact (List.Perm.swap a r[k] (r.eraseIdx k)).trans (List.Perm.cons a this)
def look (F : List Int) (q : Int) : Int := F.getD q.toNat 0
theorem look_set_same {F : List Int} {k : Nat} {x : Int} (h : k < F.length) : look (F.set k x) (k : Int) = x := by
  unfold look
  rw [Int.toNat_natCast, List.getD_eq_getElem?_getD, List.getElem?_set_self h]
  rfl
theorem look_set_ne {F : List Int} {k : Nat} {x q : Int} (h0 : 0 ≤ q) (h : q ≠ (k : Int)) : look (F.set k x) q = look F q := by
  unfold look
  rw [List.getD_eq_getElem?_getD, List.getD_eq_getElem?_getD, List.getElem?_set_ne (by omega)]
def RingInv (pl F : List Int) (at' : Nat) : Prop := F.length = pl.length ∧ ((pl.take at').map (look F)).Perm (pl.take at')
theorem rot_perm (l : List Int) (n : Nat) (h : 0 < n) (hl : l.length = n) : ((List.range n).map fun j => l.getD ((j + 1) % n) 0).Perm l := by
  cases l with
  | nil =>
    rw [List.length_nil] at hl
    omega
  | cons a r =>
    have e : ((List.range n).map fun j => (a :: r).getD ((j + 1) % n) 0) = r ++ [a] := by
      refine List.ext_getElem? fun i => ?_
      rw [List.length_cons] at hl
      rw [List.getElem?_map, List.getElem?_append]
      by_cases hi : i < r.length
      · rw [if_pos hi, List.getElem?_range (by omega)]
        show some ((a :: r).getD ((i + 1) % n) 0) = _
        rw [Nat.mod_eq_of_lt (by omega), List.getD_eq_getElem?_getD, List.getElem?_cons_succ, List.getElem?_eq_getElem hi]
        rfl
      · rw [if_neg hi]
        by_cases hj : i = r.length
        · rw [List.getElem?_range (by omega)]
          show some ((a :: r).getD ((i + 1) % n) 0) = _
          rw [show i + 1 = n by omega, Nat.mod_self, show i - r.length = 0 by omega]
          rfl
        · rw [List.getElem?_eq_none (by rw [List.length_range]; omega), List.getElem?_eq_none (by rw [List.length_singleton]; omega)]
          rfl
    rw [e]
    exact List.perm_append_comm (l₁ := r) (l₂ := [a])
theorem ring_step {pl F F' : List Int} {at' len : Nat} (h : RingInv pl F at') (hl : 0 < len) (ha : at' + len ≤ pl.length) (h1 : F'.length = pl.length)
    (h2 : ∀ q ∈ pl.take at', look F' q = look F q) (h3 : ∀ j, j < len → look F' (pl.getD (at' + j) 0) = pl.getD (at' + (j + 1) % len) 0) : RingInv pl F' (at' + len) := by
  refine ⟨h1, ?_⟩
  have e : pl.take (at' + len) = pl.take at' ++ (pl.drop at').take len := List.take_add
  rw [e, List.map_append]
  refine List.Perm.append ?_ ?_
  · rw [List.map_congr_left h2]
    exact h.2
  · have hlen : ((pl.drop at').take len).length = len := by
      rw [List.length_take, List.length_drop]
      omega
    refine List.Perm.trans (List.Perm.of_eq ?_) (rot_perm ((pl.drop at').take len) len hl hlen)
    refine List.ext_getElem? fun i => ?_
    rw [List.getElem?_map, List.getElem?_map]
    by_cases hi : i < len
    · have m : (i + 1) % len < len := Nat.mod_lt _ hl
      have g1 : ((pl.drop at').take len)[i]? = some (pl.getD (at' + i) 0) := by
        rw [List.getElem?_take_of_lt hi, List.getElem?_drop, List.getD_eq_getElem?_getD, List.getElem?_eq_getElem (show at' + i < pl.length by omega)]
        rfl
      have g2 : ((pl.drop at').take len).getD ((i + 1) % len) 0 = pl.getD (at' + (i + 1) % len) 0 := by
        rw [List.getD_eq_getElem?_getD, List.getElem?_take_of_lt m, List.getElem?_drop, List.getD_eq_getElem?_getD]
      rw [g1, List.getElem?_range hi]
      show some (look F' (pl.getD (at' + i) 0)) = some (((pl.drop at').take len).getD ((i + 1) % len) 0)
      rw [h3 i hi, g2]
    · rw [List.getElem?_eq_none (by omega), List.getElem?_eq_none (by rw [List.length_range]; omega)]
      rfl
theorem look_iota {F : List Int} {m : Nat} (h : F.length = m) : (iota m).map (look F) = F := by
  refine List.ext_getElem? fun i => ?_
  unfold iota
  rw [List.map_map, List.getElem?_map]
  by_cases hi : i < m
  · rw [List.getElem?_range hi, List.getElem?_eq_getElem (show i < F.length by omega)]
    show some (look F (i : Int)) = _
    unfold look
    rw [Int.toNat_natCast, List.getD_eq_getElem?_getD, List.getElem?_eq_getElem (show i < F.length by omega)]
    rfl
  · rw [List.getElem?_eq_none (by rw [List.length_range]; omega), List.getElem?_eq_none (by omega)]
    rfl
theorem ring_end {pl F : List Int} (hp : Shf pl) (h : RingInv pl F pl.length) : Shf F := by
  obtain ⟨h1, h2⟩ := h
  rw [List.take_of_length_le (Nat.le_refl _)] at h2
  refine ⟨by rw [h1]; exact hp.1, by rw [h1]; exact hp.2.1, ?_⟩
  have e := hp.2.2.map (look F)
  rw [look_iota h1] at e
  rw [h1]
  exact (e.symm.trans h2).trans hp.2.2
theorem Shf.get {ns : List Int} (h : Shf ns) {i : Nat} (hi : i < ns.length) : ∃ k : Nat, ns[i]? = some (k : Int) ∧ ns.getD i 0 = (k : Int) ∧ k < ns.length := by
  have m := h.mem (List.getElem_mem hi)
  refine ⟨ns[i].toNat, ?_, ?_, by omega⟩
  · rw [List.getElem?_eq_getElem hi, Int.toNat_of_nonneg m.1]
  · rw [List.getD_eq_getElem?_getD, List.getElem?_eq_getElem hi, Int.toNat_of_nonneg m.1]
    rfl
theorem Shf.inj {ns : List Int} (h : Shf ns) {i j : Nat} (hi : i < ns.length) (hj : j < ns.length) (e : ns.getD i 0 = ns.getD j 0) : i = j := by
  rw [List.getD_eq_getElem?_getD, List.getD_eq_getElem?_getD, List.getElem?_eq_getElem hi, List.getElem?_eq_getElem hj] at e
  exact (List.getElem_inj h.nodup).mp e

/-! ### great shuffles -/
def stepsL (size step : Nat) : List Int := (List.range size).map fun k : Nat => ((k * step % size : Nat) : Int)
theorem stepsL_length (size step : Nat) : (stepsL size step).length = size := by simp [stepsL]
theorem steps_shf {size step : Nat} (h0 : 0 < size) (h1 : size ≤ 300) (hc : Nat.Coprime size step) : Shf (stepsL size step) := by
  have hl := stepsL_length size step
  refine ⟨by omega, by omega, ?_⟩
  rw [hl]
  refine perm_iota ?_ ?_ hl
  · show List.Pairwise _ _
    refine List.pairwise_iff_getElem.mpr fun i j hi hj hij e => ?_
    unfold stepsL at e hi hj
    rw [List.length_map, List.length_range] at hi hj
    simp only [List.getElem_map, List.getElem_range] at e
    have e1 : j * step % size = i * step % size := by omega
    have e2 := Nat.dvd_of_mod_eq_zero (Nat.sub_mod_eq_zero_of_mod_eq e1)
    rw [← Nat.mul_sub_right_distrib] at e2
    have e3 := hc.dvd_of_dvd_mul_right e2
    have := Nat.eq_zero_of_dvd_of_lt e3 (by omega)
    omega
  · intro x hx
    obtain ⟨k, _, rfl⟩ := List.mem_map.mp hx
    have := Nat.mod_lt (k * step) h0
    omega
theorem cop293 : ∀ s : Nat, s < 293 → 0 < s → Nat.gcd 293 s = 1 := by decide +kernel
theorem cop_one (n : Nat) : Nat.Coprime n 1 := Nat.gcd_one_right n
theorem cop_pred {n : Nat} (h : 0 < n) : Nat.Coprime n (n - 1) := by
  have a := Nat.dvd_sub (Nat.gcd_dvd_left n (n - 1)) (Nat.gcd_dvd_right n (n - 1))
  rw [show n - (n - 1) = 1 by omega] at a
  exact Nat.dvd_one.mp a
theorem iota_look {m : Nat} {q : Int} (h0 : 0 ≤ q) (h1 : q < m) : look (iota m) q = q := by
  unfold look iota
  rw [List.getD_eq_getElem?_getD, List.getElem?_map, List.getElem?_range (by omega)]
  show ((q.toNat : Nat) : Int) = q
  omega
theorem ring_rest {pl F : List Int} {t : Nat} (hp : Shf pl) (h : RingInv pl F t) (hd : ∀ q ∈ pl.drop t, look F q = q) : Shf F := by
  refine ring_end hp ⟨h.1, ?_⟩
  rw [List.take_of_length_le (Nat.le_refl _)]
  have e : (pl.take t ++ pl.drop t).map (look F) = (pl.take t).map (look F) ++ pl.drop t := by
    rw [List.map_append]
    congr 1
    rw [List.map_congr_left hd, List.map_id']
  have p := List.Perm.append_right (pl.drop t) h.2
  rw [← e, List.take_append_drop] at p
  exact p

/-! ### rings of a shuffle -/
def nx (ds : List Int) (i : Nat) : Nat := (ds.getD i 0).toNat
def orb (ds : List Int) (i : Nat) : Nat → Nat
  | 0 => i
  | t + 1 => nx ds (orb ds i t)
theorem nx_at {ds : List Int} (h : Shf ds) {i : Nat} (hi : i < ds.length) : (vi ds)[i]? = some (.int (nx ds i : Int)) := by
  obtain ⟨k, e1, e2, _⟩ := Shf.get h hi
  unfold nx vi
  rw [List.getElem?_map, e1, e2, Int.toNat_natCast]
  rfl
theorem nx_get {ds : List Int} (h : Shf ds) {i : Nat} (hi : i < ds.length) : ds.getD i 0 = (nx ds i : Int) := by
  obtain ⟨k, e1, e2, _⟩ := Shf.get h hi
  unfold nx
  rw [e2, Int.toNat_natCast]
theorem nx_lt {ds : List Int} (h : Shf ds) {i : Nat} (hi : i < ds.length) : nx ds i < ds.length := by
  obtain ⟨k, e1, e2, l⟩ := Shf.get h hi
  unfold nx
  rw [e2, Int.toNat_natCast]
  exact l
theorem nx_inj {ds : List Int} (h : Shf ds) {i j : Nat} (hi : i < ds.length) (hj : j < ds.length) (e : nx ds i = nx ds j) : i = j :=
  Shf.inj h hi hj (by rw [nx_get h hi, nx_get h hj, e])
theorem orb_lt {ds : List Int} (h : Shf ds) {i : Nat} (hi : i < ds.length) : ∀ t, orb ds i t < ds.length
  | 0 => hi
  | t + 1 => nx_lt h (orb_lt h hi t)
theorem orb_add (ds : List Int) (i a : Nat) : ∀ b, orb ds i (a + b) = orb ds (orb ds i a) b
  | 0 => rfl
  | b + 1 => by
    show nx ds (orb ds i (a + b)) = nx ds (orb ds (orb ds i a) b)
    rw [orb_add ds i a b]
structure IsRing (ds : List Int) (r : List Nat) : Prop where
  pos : 0 < r.length
  nd : r.Nodup
  lt : ∀ i ∈ r, i < ds.length
  nxt : ∀ j, j < r.length → nx ds (r.getD j 0) = r.getD ((j + 1) % r.length) 0
theorem getD_of {r : List Nat} {j : Nat} (h : j < r.length) : r.getD j 0 = r[j] := by
  rw [List.getD_eq_getElem?_getD, List.getElem?_eq_getElem h]
  rfl
theorem IsRing.orb {ds : List Int} {r : List Nat} (h : IsRing ds r) {j : Nat} (hj : j < r.length) : ∀ t, My.orb ds (r.getD j 0) t = r.getD ((j + t) % r.length) 0
  | 0 => by
    rw [Nat.add_zero, Nat.mod_eq_of_lt hj]
    rfl
  | t + 1 => by
    show nx ds (My.orb ds (r.getD j 0) t) = _
    rw [h.orb hj t, h.nxt _ (Nat.mod_lt _ h.pos), Nat.mod_add_mod, Nat.add_assoc]
theorem IsRing.ix {ds : List Int} {r : List Nat} (h : IsRing ds r) {a b : Nat} (ha : a < r.length) (hb : b < r.length) (e : r.getD a 0 = r.getD b 0) : a = b := by
  rw [getD_of ha, getD_of hb] at e
  exact (List.getElem_inj h.nd).mp e
theorem mod_back {j t n : Nat} (hj : j < n) : (j + t) % n = j ↔ t % n = 0 := by
  have hn : 0 < n := by omega
  have h := Nat.mod_lt t hn
  rw [← Nat.add_mod_mod]
  by_cases c : j + t % n < n
  · rw [Nat.mod_eq_of_lt c]
    omega
  · rw [Nat.mod_eq_sub_mod (by omega), Nat.mod_eq_of_lt (by omega)]
    omega
theorem IsRing.back {ds : List Int} {r : List Nat} (h : IsRing ds r) {j : Nat} (hj : j < r.length) (t : Nat) : My.orb ds (r.getD j 0) t = r.getD j 0 ↔ t % r.length = 0 := by
  rw [h.orb hj t]
  refine Iff.trans ⟨fun e => h.ix (Nat.mod_lt _ h.pos) hj e, fun e => by rw [e]⟩ (mod_back hj)
theorem IsRing.mem {ds : List Int} {r : List Nat} {i : Nat} (hi : i ∈ r) : ∃ j, j < r.length ∧ r.getD j 0 = i := by
  obtain ⟨j, hj, e⟩ := List.getElem_of_mem hi
  exact ⟨j, hj, by rw [getD_of hj, e]⟩
theorem IsRing.fro {ds : List Int} (hs : Shf ds) {r : List Nat} (h : IsRing ds r) {x : Nat} (hx : x < ds.length) (hm : nx ds x ∈ r) : x ∈ r := by
  obtain ⟨k, hk, e⟩ := IsRing.mem (ds := ds) hm
  have hp := h.pos
  have hl : (k + r.length - 1) % r.length < r.length := Nat.mod_lt _ hp
  have e2 := h.nxt _ hl
  rw [Nat.mod_add_mod, show k + r.length - 1 + 1 = k + r.length by omega, Nat.add_mod_right, Nat.mod_eq_of_lt hk, e] at e2
  have hr : r.getD ((k + r.length - 1) % r.length) 0 ∈ r := by
    rw [getD_of hl]
    exact List.getElem_mem hl
  rw [← nx_inj hs (h.lt _ hr) hx e2]
  exact hr
/-- the first turn behind which i is back -/
def wt (ds : List Int) (i : Nat) : Nat → Nat × Nat
  | 0 => (nx ds i, 1)
  | k + 1 => if (wt ds i k).1 = i then wt ds i k else (nx ds (wt ds i k).1, (wt ds i k).2 + 1)
def per (ds : List Int) (i : Nat) : Nat := (wt ds i ds.length).2
theorem nlen_le {n : Nat} {l : List Nat} (hn : l.Nodup) (h : ∀ x ∈ l, x < n) : l.length ≤ n := by
  have := len_le (n := n) (l := l.map fun k : Nat => (k : Int)) (List.Pairwise.map _ (fun a b (hab : a ≠ b) => by
    intro e
    exact hab (Int.ofNat.inj e)) hn) fun x hx => by
    obtain ⟨k, hk, rfl⟩ := List.mem_map.mp hx
    have := h k hk
    omega
  rw [List.length_map] at this
  exact this
theorem IsRing.wt {ds : List Int} {r : List Nat} (h : IsRing ds r) {j : Nat} (hj : j < r.length) : ∀ k, My.wt ds (r.getD j 0) k = (My.orb ds (r.getD j 0) (min r.length (k + 1)), min r.length (k + 1))
  | 0 => by
    have hp := h.pos
    rw [show min r.length (0 + 1) = 1 by omega]
    rfl
  | k + 1 => by
    have hp := h.pos
    show (if (My.wt ds (r.getD j 0) k).1 = r.getD j 0 then My.wt ds (r.getD j 0) k else (nx ds (My.wt ds (r.getD j 0) k).1, (My.wt ds (r.getD j 0) k).2 + 1)) = _
    rw [h.wt hj k]
    by_cases c : r.length ≤ k + 1
    · rw [show min r.length (k + 1) = r.length by omega, show min r.length (k + 1 + 1) = r.length by omega, if_pos ((h.back hj r.length).mpr (Nat.mod_self _))]
    · rw [show min r.length (k + 1) = k + 1 by omega, show min r.length (k + 1 + 1) = k + 1 + 1 by omega, if_neg fun e => by
        have := (h.back hj (k + 1)).mp e
        rw [Nat.mod_eq_of_lt (by omega)] at this
        omega]
      rfl
theorem IsRing.len_le {ds : List Int} {r : List Nat} (h : IsRing ds r) : r.length ≤ ds.length := nlen_le h.nd h.lt
theorem IsRing.per {ds : List Int} {r : List Nat} (h : IsRing ds r) {j : Nat} (hj : j < r.length) : My.per ds (r.getD j 0) = r.length := by
  unfold My.per
  rw [h.wt hj]
  have := h.len_le
  show min _ _ = _
  omega
def ringL (ds : List Int) (i : Nat) : List Nat := (List.range (per ds i)).map (orb ds i)
def ringsL (ds : List Int) : Nat → List (List Nat)
  | 0 => []
  | i + 1 => if i ∈ (ringsL ds i).flatten then ringsL ds i else ringsL ds i ++ [ringL ds i]
def track (ds : List Int) (i j : Nat) : List Nat := (List.range j).map (orb ds i)
theorem track_length (ds : List Int) (i j : Nat) : (track ds i j).length = j := by simp [track]
theorem track_getD (ds : List Int) (i : Nat) {j k : Nat} (h : k < j) : (track ds i j).getD k 0 = orb ds i k := by
  unfold track
  rw [List.getD_eq_getElem?_getD, List.getElem?_map, List.getElem?_range h]
  rfl
theorem track_succ (ds : List Int) (i j : Nat) : track ds i (j + 1) = track ds i j ++ [orb ds i j] := by
  unfold track
  rw [List.range_succ, List.map_append]
  rfl
/-- a walk that comes to a marked place is a ring -/
theorem ring_close {ds : List Int} (hs : Shf ds) {i j : Nat} (hi : i < ds.length) {F : List Nat} (hF : i ∉ F) (hb : ∀ x, x < ds.length → nx ds x ∈ F → x ∈ F) (nd : (F ++ track ds i j).Nodup) (hm : orb ds i j ∈ F ++ track ds i j) : IsRing ds (track ds i j) := by
  have ndt : (track ds i j).Nodup := (List.nodup_append.mp nd).2.1
  have nf : ∀ k, orb ds i k ∉ F := by
    intro k
    induction k with
    | zero => exact hF
    | succ k ih => exact fun h => ih (hb _ (orb_lt hs hi k) h)
  have m : orb ds i j ∈ track ds i j := by
    rcases List.mem_append.mp hm with h | h
    · exact absurd h (nf j)
    · exact h
  obtain ⟨k, hk, e⟩ := IsRing.mem (ds := ds) m
  rw [track_length] at hk
  rw [track_getD ds i hk] at e
  have back : orb ds i j = i := by
    cases k with
    | zero => exact e.symm
    | succ k =>
      obtain ⟨j', rfl⟩ : ∃ j', j = j' + 1 := ⟨j - 1, by omega⟩
      have e2 := nx_inj hs (orb_lt hs hi k) (orb_lt hs hi j') e
      have g1 : (track ds i (j' + 1))[k]? = some (orb ds i k) := by
        unfold track
        rw [List.getElem?_map, List.getElem?_range (by omega)]
        rfl
      have g2 : (track ds i (j' + 1))[j']? = some (orb ds i j') := by
        unfold track
        rw [List.getElem?_map, List.getElem?_range (by omega)]
        rfl
      have l1 : k < (track ds i (j' + 1)).length := by rw [track_length]; omega
      have : k = j' := (List.getElem?_inj l1 ndt).mp (by rw [g1, g2, e2])
      omega
  refine ⟨by rw [track_length]; omega, ndt, ?_, ?_⟩
  · intro x hx
    obtain ⟨t, _, rfl⟩ := List.mem_map.mp hx
    exact orb_lt hs hi t
  · intro t ht
    rw [track_length] at ht
    rw [track_length, track_getD ds i ht]
    by_cases c : t + 1 < j
    · rw [Nat.mod_eq_of_lt c, track_getD ds i c]
      rfl
    · have : t + 1 = j := by omega
      rw [this, Nat.mod_self, track_getD ds i (by omega)]
      have b2 : orb ds i (t + 1) = i := by rw [this]; exact back
      exact b2
structure Rings (ds : List Int) (R : List (List Nat)) (m : Nat) : Prop where
  ring : ∀ r ∈ R, IsRing ds r
  nd : R.flatten.Nodup
  all : ∀ i, i < m → i ∈ R.flatten
theorem Rings.lt {ds : List Int} {R : List (List Nat)} {m : Nat} (h : Rings ds R m) : ∀ i ∈ R.flatten, i < ds.length := fun i hi => by
  obtain ⟨r, hr, him⟩ := List.mem_flatten.mp hi
  exact (h.ring r hr).lt i him
theorem Rings.fro {ds : List Int} (hs : Shf ds) {R : List (List Nat)} {m : Nat} (h : Rings ds R m) (x : Nat) (hx : x < ds.length) (hm : nx ds x ∈ R.flatten) : x ∈ R.flatten := by
  obtain ⟨r, hr, him⟩ := List.mem_flatten.mp hm
  exact List.mem_flatten.mpr ⟨r, hr, (h.ring r hr).fro hs hx him⟩
theorem Rings.nil (ds : List Int) : Rings ds [] 0 := ⟨(fun _ h => nomatch h), List.nodup_nil, fun _ h => absurd h (Nat.not_lt_zero _)⟩
theorem Rings.skip {ds : List Int} {R : List (List Nat)} {m : Nat} (h : Rings ds R m) (hm : m ∈ R.flatten) : Rings ds R (m + 1) := ⟨h.ring, h.nd, fun i hi => by
  by_cases e : i = m
  · rw [e]
    exact hm
  · exact h.all i (by omega)⟩
theorem Rings.put {ds : List Int} {R : List (List Nat)} {m j : Nat} (h : Rings ds R m) (hr : IsRing ds (track ds m j)) (nd : (R.flatten ++ track ds m j).Nodup) : Rings ds (R ++ [track ds m j]) (m + 1) := by
  have ef : (R ++ [track ds m j]).flatten = R.flatten ++ track ds m j := by
    rw [List.flatten_append, List.flatten_singleton]
  refine ⟨fun r h1 => ?_, by rw [ef]; exact nd, fun i hi => ?_⟩
  · rcases List.mem_append.mp h1 with h1 | h1
    · exact h.ring r h1
    · rw [List.mem_singleton.mp h1]
      exact hr
  · rw [ef]
    by_cases e : i = m
    · refine List.mem_append_right _ (List.mem_map.mpr ⟨0, ?_, e.symm⟩)
      have := hr.pos
      rw [track_length] at this
      exact List.mem_range.mpr this
    · exact List.mem_append_left _ (h.all i (by omega))
theorem track_is {ds : List Int} {m j : Nat} (hr : IsRing ds (track ds m j)) : track ds m j = ringL ds m := by
  have p := hr.pos
  have e := hr.per p
  rw [track_length] at p e
  rw [track_getD ds m p] at e
  unfold ringL
  rw [show My.per ds m = j from e]
  rfl
/-- marked places -/
def marks (n : Nat) (M : List Nat) : List V := (List.range n).map fun i => V.bl (decide (i ∈ M))
theorem marks_nil (n : Nat) : (List.replicate n [V.bl false]).flatten = marks n [] := by
  unfold marks
  induction n with
  | zero => rfl
  | succ n ih =>
    rw [List.replicate_succ', List.flatten_append, ih, List.range_succ, List.map_append]
    rfl
theorem marks_at {n i : Nat} (M : List Nat) (h : i < n) : (marks n M)[i]? = some (.bl (decide (i ∈ M))) := by
  unfold marks
  rw [List.getElem?_map, List.getElem?_range h]
  rfl
theorem marks_set {n p : Nat} (M : List Nat) (h : p < n) : (marks n M).set p (.bl true) = marks n (M ++ [p]) := by
  refine List.ext_getElem? fun i => ?_
  by_cases hi : i < n
  · rw [marks_at _ hi]
    by_cases e : p = i
    · subst e
      rw [List.getElem?_set_self (by unfold marks; simpa using h)]
      simp
    · rw [List.getElem?_set_ne e, marks_at _ hi]
      have : i ∈ M ++ [p] ↔ i ∈ M := by
        rw [List.mem_append, List.mem_singleton]
        exact ⟨fun h => h.elim id fun h => absurd h.symm e, .inl⟩
      simp only [this]
  · rw [List.getElem?_eq_none (by rw [List.length_set]; unfold marks; rw [List.length_map, List.length_range]; omega), List.getElem?_eq_none (by unfold marks; rw [List.length_map, List.length_range]; omega)]
theorem marks_length (n : Nat) (M : List Nat) : (marks n M).length = n := by simp [marks]

/-- the rings of a shuffle, found -/
theorem orb_shift (ds : List Int) (i : Nat) (t : Nat) : orb ds (nx ds i) t = orb ds i (t + 1) := by
  rw [Nat.add_comm, orb_add]
  rfl
theorem rings_step {ds : List Int} (hs : Shf ds) {R : List (List Nat)} {i : Nat} (hi : i < ds.length) (rg : Rings ds R i) (hm : i ∉ R.flatten) : ∃ j, IsRing ds (track ds i j) ∧ (R.flatten ++ track ds i j).Nodup := by
  have M0 : R.flatten.length ≤ ds.length := nlen_le rg.nd rg.lt
  have go : ∀ m j, m + (R.flatten.length + j) = ds.length → (R.flatten ++ track ds i j).Nodup → ∃ j, IsRing ds (track ds i j) ∧ (R.flatten ++ track ds i j).Nodup := by
    intro m
    induction m with
    | zero =>
      intro j hj nd
      by_cases hmm : orb ds i j ∈ R.flatten ++ track ds i j
      · exact ⟨j, ring_close hs hi hm (rg.fro hs) nd hmm, nd⟩
      · have nd2 : (R.flatten ++ track ds i (j + 1)).Nodup := by
          rw [track_succ, ← List.append_assoc]
          refine List.nodup_append.mpr ⟨nd, List.pairwise_singleton _ _, fun x hx y hy e => ?_⟩
          rw [List.mem_singleton.mp hy] at e
          exact hmm (e ▸ hx)
        have lt2 : (R.flatten ++ track ds i (j + 1)).length ≤ ds.length := by
          refine nlen_le nd2 fun x hx => ?_
          rcases List.mem_append.mp hx with h | h
          · exact rg.lt x h
          · obtain ⟨t, _, rfl⟩ := List.mem_map.mp h
            exact orb_lt hs hi t
        rw [List.length_append, track_length] at lt2
        omega
    | succ m ih =>
      intro j hj nd
      by_cases hmm : orb ds i j ∈ R.flatten ++ track ds i j
      · exact ⟨j, ring_close hs hi hm (rg.fro hs) nd hmm, nd⟩
      · refine ih (j + 1) (by omega) ?_
        rw [track_succ, ← List.append_assoc]
        refine List.nodup_append.mpr ⟨nd, List.pairwise_singleton _ _, fun x hx y hy e => ?_⟩
        rw [List.mem_singleton.mp hy] at e
        exact hmm (e ▸ hx)
  refine go (ds.length - R.flatten.length) 0 (by omega) ?_
  show (R.flatten ++ []).Nodup
  rw [List.append_nil]
  exact rg.nd
theorem rings_upto {ds : List Int} (hs : Shf ds) : ∀ i, i ≤ ds.length → Rings ds (ringsL ds i) i
  | 0, _ => Rings.nil ds
  | i + 1, hi => by
    have rg := rings_upto hs i (by omega)
    by_cases hm : i ∈ (ringsL ds i).flatten
    · rw [show ringsL ds (i + 1) = ringsL ds i from if_pos hm]
      exact rg.skip hm
    · rw [show ringsL ds (i + 1) = ringsL ds i ++ [ringL ds i] from if_neg hm]
      obtain ⟨j, hr, nd⟩ := rings_step hs (show i < ds.length by omega) rg hm
      rw [← track_is hr]
      exact rg.put hr nd
theorem rings_of {ds : List Int} (hs : Shf ds) : Rings ds (ringsL ds ds.length) ds.length := rings_upto hs _ (Nat.le_refl _)

/-! ### how many are back -/
theorem Rings.perm {ds : List Int} (hs : Shf ds) (h : Rings ds R ds.length) : R.flatten.Perm (List.range ds.length) :=
  (List.perm_ext_iff_of_nodup h.nd List.nodup_range).mpr fun i => ⟨fun m => List.mem_range.mpr (h.lt i m), fun m => h.all i (List.mem_range.mp m)⟩
def lensL (ds : List Int) : List Int := (up ((ringsL ds ds.length).map List.length)).mergeSort (fun a b => decide (a ≤ b))
theorem lens_perm (ds : List Int) : (up ((ringsL ds ds.length).map List.length)).Perm (lensL ds) := (List.mergeSort_perm _ _).symm
theorem lens_sorted (ds : List Int) : (lensL ds).Pairwise (· ≤ ·) := by
  have h := List.pairwise_mergeSort (le := fun a b : Int => decide (a ≤ b)) (fun a b c x y => decide_eq_true (Int.le_trans (of_decide_eq_true x) (of_decide_eq_true y))) (fun a b => by
    rcases Int.le_total a b with h | h
    · simp [h]
    · simp [h]) (up ((ringsL ds ds.length).map List.length))
  exact h.imp fun h => of_decide_eq_true h
theorem lens_mem {ds : List Int} (h : Rings ds (ringsL ds ds.length) ds.length) {l : Int} (hl : l ∈ lensL ds) : 1 ≤ l ∧ l ≤ ds.length := by
  obtain ⟨k, hk, rfl⟩ := List.mem_map.mp ((lens_perm ds).mem_iff.mpr hl)
  obtain ⟨r, hr, rfl⟩ := List.mem_map.mp hk
  have := (h.ring r hr).pos
  have := (h.ring r hr).len_le
  omega
theorem lens_length (ds : List Int) : (lensL ds).length = (ringsL ds ds.length).length := by
  rw [← (lens_perm ds).length_eq, up_length, List.length_map]
theorem rings_length {ds : List Int} (h : Rings ds (ringsL ds ds.length) ds.length) : (ringsL ds ds.length).length ≤ ds.length :=
  Nat.le_trans (rings_le fun r hr => (h.ring r hr).pos) (nlen_le h.nd h.lt)
def cnt (ds : List Int) (t : Nat) : Nat := ((List.range ds.length).filter fun k => decide (orb ds k t = k)).length
theorem ring_cnt {ds : List Int} {r : List Nat} (h : IsRing ds r) (t : Nat) : (r.filter fun k => decide (orb ds k t = k)).length = if t % r.length = 0 then r.length else 0 := by
  by_cases c : t % r.length = 0
  · rw [if_pos c, List.filter_eq_self.mpr]
    intro k hk
    obtain ⟨j, hj, rfl⟩ := IsRing.mem (ds := ds) hk
    exact decide_eq_true ((h.back hj t).mpr c)
  · rw [if_neg c, List.filter_eq_nil_iff.mpr]
    · rfl
    intro k hk
    obtain ⟨j, hj, rfl⟩ := IsRing.mem (ds := ds) hk
    intro e
    exact c ((h.back hj t).mp (of_decide_eq_true e))
theorem rings_cnt {ds : List Int} (t : Nat) : ∀ {R : List (List Nat)}, (∀ r ∈ R, IsRing ds r) → ((R.flatten.filter fun k => decide (orb ds k t = k)).length : Int) = ((up (R.map List.length)).filter fun l => decide ((t : Int) % l = 0)).sum
  | [], _ => rfl
  | r :: R, h => by
    have ih := rings_cnt t (R := R) fun r hr => h r (List.mem_cons_of_mem _ hr)
    have hr := ring_cnt (h r List.mem_cons_self) t
    have e : ((t : Int) % (r.length : Int) = 0) ↔ t % r.length = 0 := by
      rw [← Int.natCast_emod]
      omega
    rw [List.flatten_cons, List.filter_append, List.length_append, hr, Int.natCast_add, ih]
    show _ = (((r.length : Int) :: up (R.map List.length)).filter fun l => decide ((t : Int) % l = 0)).sum
    rw [List.filter_cons]
    by_cases c : t % r.length = 0
    · rw [if_pos c, if_pos (decide_eq_true (e.mpr c)), List.sum_cons]
    · rw [if_neg c, if_neg (by simpa using fun x => c (e.mp x))]
      omega
theorem back_cnt {ds : List Int} (hs : Shf ds) (h : Rings ds (ringsL ds ds.length) ds.length) (t : Nat) : ((lensL ds).filter fun l => decide ((t : Int) % l = 0)).sum = (cnt ds t : Int) := by
  rw [← perm_sum ((lens_perm ds).filter _), ← rings_cnt t h.ring]
  unfold cnt
  rw [((h.perm hs).filter _).length_eq]
def backL (ds : List Int) (m : Nat) : List Nat := (List.range m).map fun t => cnt ds (t + 1)
theorem cnt_le (ds : List Int) (t : Nat) : cnt ds t ≤ ds.length := by
  have := List.length_filter_le (fun k => decide (orb ds k t = k)) (List.range ds.length)
  rw [List.length_range] at this
  exact this

/-! ### turned -/
theorem per_ring {ds : List Int} (hs : Shf ds) {i : Nat} (hi : i < ds.length) : ∃ r j, IsRing ds r ∧ j < r.length ∧ r.getD j 0 = i ∧ per ds i = r.length := by
  have rg := rings_of hs
  obtain ⟨r, hr, him⟩ := List.mem_flatten.mp (rg.all i hi)
  obtain ⟨j, hj, rfl⟩ := IsRing.mem (ds := ds) him
  exact ⟨r, j, rg.ring r hr, hj, rfl, (rg.ring r hr).per hj⟩
theorem per_pos {ds : List Int} (hs : Shf ds) {i : Nat} (hi : i < ds.length) : 1 ≤ per ds i ∧ per ds i ≤ ds.length := by
  obtain ⟨r, j, hr, hj, _, e⟩ := per_ring hs hi
  have := hr.pos
  have := hr.len_le
  omega
theorem orb_back {ds : List Int} (hs : Shf ds) {i : Nat} (hi : i < ds.length) (t : Nat) : orb ds i t = i ↔ t % per ds i = 0 := by
  obtain ⟨r, j, hr, hj, rfl, e⟩ := per_ring hs hi
  rw [e]
  exact hr.back hj t
theorem orb_mod {ds : List Int} (hs : Shf ds) {i : Nat} (hi : i < ds.length) (t : Nat) : orb ds i (t % per ds i) = orb ds i t := by
  obtain ⟨r, j, hr, hj, rfl, e⟩ := per_ring hs hi
  rw [e, hr.orb hj, hr.orb hj, Nat.add_mod_mod]
def tn (ds : List Int) (t : Int) (i : Nat) : Nat := orb ds i (t % (per ds i : Int)).toNat
theorem tn_lt {ds : List Int} (hs : Shf ds) (t : Int) {i : Nat} (hi : i < ds.length) : tn ds t i < ds.length := orb_lt hs hi _
theorem tn_nat {ds : List Int} (hs : Shf ds) (t : Nat) {i : Nat} (hi : i < ds.length) : tn ds (t : Int) i = orb ds i t := by
  unfold tn
  rw [← Int.natCast_emod, Int.toNat_natCast, orb_mod hs hi]
theorem tn_ring {ds : List Int} {r : List Nat} (h : IsRing ds r) (t : Int) {j : Nat} (hj : j < r.length) : r.getD (((j : Int) + t) % (r.length : Int)).toNat 0 = tn ds t (r.getD j 0) := by
  have p := h.pos
  unfold tn
  rw [h.per hj, h.orb hj]
  congr 1
  have h0 := Int.emod_nonneg t (show (r.length : Int) ≠ 0 by omega)
  have e : (((j + (t % (r.length : Int)).toNat) % r.length : Nat) : Int) = ((j : Int) + t) % (r.length : Int) := by
    rw [Int.natCast_emod, Int.natCast_add, Int.toNat_of_nonneg h0, Int.add_emod_emod]
  omega
theorem tn_step {ds : List Int} (hs : Shf ds) (t : Int) {i : Nat} (hi : i < ds.length) : nx ds (tn ds t i) = tn ds (t + 1) i := by
  obtain ⟨p1, _⟩ := per_pos hs hi
  have h0 := Int.emod_nonneg t (show (per ds i : Int) ≠ 0 by omega)
  unfold tn
  show orb ds i ((t % (per ds i : Int)).toNat + 1) = _
  rw [← orb_mod hs hi]
  congr 1
  have e : ((((t % (per ds i : Int)).toNat + 1) % per ds i : Nat) : Int) = (t + 1) % (per ds i : Int) := by
    rw [Int.natCast_emod, Int.natCast_add, Int.toNat_of_nonneg h0]
    exact Int.emod_add_emod _ _ _
  omega
def turnL (ds : List Int) (t : Int) : List Int := (List.range ds.length).map fun i => (tn ds t i : Int)
theorem turn_length (ds : List Int) (t : Int) : (turnL ds t).length = ds.length := by simp [turnL]
theorem turn_end' {ds F : List Int} {t : Int} (h1 : F.length = ds.length) (h : ∀ i, i < ds.length → F.getD i 0 = (tn ds t i : Int)) : F = turnL ds t := by
  refine List.ext_getElem? fun i => ?_
  unfold turnL
  rw [List.getElem?_map]
  by_cases hi : i < ds.length
  · have := h i hi
    rw [List.getD_eq_getElem?_getD, List.getElem?_eq_getElem (show i < F.length by omega)] at this
    rw [List.getElem?_range hi, List.getElem?_eq_getElem (show i < F.length by omega)]
    exact congrArg some this
  · rw [List.getElem?_eq_none (show F.length ≤ i by omega), List.getElem?_eq_none (by rw [List.length_range]; omega)]
    rfl
theorem turn_wide {ds : List Int} (hs : Shf ds) (t : Int) : wide 1900 (turnL ds t) ∧ (turnL ds t).length ≤ 4000 := by
  have h3 := hs.2.1
  refine ⟨(wide_lt (k := 20) (by decide) fun n hn => ?_).mono (by decide), by rw [turn_length]; omega⟩
  obtain ⟨i, hi, rfl⟩ := List.mem_map.mp hn
  have := tn_lt hs t (List.mem_range.mp hi)
  omega
theorem up_at {r : List Nat} {j : Nat} (h : j < r.length) : (vi (up r))[j]? = some (.int (r.getD j 0 : Int)) := by
  unfold vi up
  rw [List.getElem?_map, List.getElem?_map, List.getElem?_eq_getElem h, getD_of h]
  rfl
theorem set_getD {F : List Int} {k j : Nat} {x : Int} (h : k < F.length) : (F.set k x).getD j 0 = if j = k then x else F.getD j 0 := by
  rw [List.getD_eq_getElem?_getD, List.getD_eq_getElem?_getD]
  by_cases c : j = k
  · rw [if_pos c, c, List.getElem?_set_self h]
    rfl
  · rw [if_neg c, List.getElem?_set_ne (Ne.symm c)]
theorem take_flat {R : List (List Nat)} {i : Nat} {r : List Nat} (h : R[i]? = some r) : (R.take (i + 1)).flatten = (R.take i).flatten ++ r := by
  rw [List.take_add_one, h, List.flatten_append]
  show _ ++ (r ++ []) = _
  rw [List.append_nil]

def topS (i : Nat) : Stmt := PySem.Challenge.pw_backafter_k12_shuffles_turned.main.body.getD i (.Pass ⟨0, 0, 0, 0⟩)
abbrev s_is_whole : Stmt := topS 6
theorem sc_is_whole : FnScope ["value"] ["value"] (defScope s_is_whole) := ⟨rfl, rfl, rfl, by decide +kernel, rfl, by decide +kernel, by decide +kernel⟩
abbrev s_rings_in : Stmt := topS 10
theorem sc_rings_in : FnScope ["shuffle", "found", "seen", "first", "ring", "place"] ["shuffle"] (defScope s_rings_in) := ⟨rfl, rfl, rfl, by decide +kernel, rfl, by decide +kernel, by decide +kernel⟩
abbrev s_law_well : Stmt := topS 12
theorem sc_law_well : FnScope ["script", "k", "cell"] ["script", "k"] (defScope s_law_well) := ⟨rfl, rfl, rfl, by decide +kernel, rfl, by decide +kernel, by decide +kernel⟩
abbrev s_law_draw : Stmt := topS 13
theorem sc_law_draw : FnScope ["well", "many", "found", "stirred"] ["well", "many"] (defScope s_law_draw) := ⟨rfl, rfl, rfl, by decide +kernel, rfl, by decide +kernel, by decide +kernel⟩
abbrev s_law_ring_at : Stmt := topS 18
theorem sc_law_ring_at : FnScope ["deck", "place", "ring", "here", "k"] ["deck", "place"] (defScope s_law_ring_at) := ⟨rfl, rfl, rfl, by decide +kernel, rfl, by decide +kernel, by decide +kernel⟩
abbrev s_law_few : Stmt := topS 19
theorem sc_law_few : FnScope ["deck", "turns", "step", "place", "here", "turn"] ["deck", "turns"] (defScope s_law_few) := ⟨rfl, rfl, rfl, by decide +kernel, rfl, by decide +kernel, by decide +kernel⟩
abbrev s_check_shuffle : Stmt := topS 7
theorem sc_check_shuffle : FnScope ["shuffle", "place"] ["shuffle"] (defScope s_check_shuffle) := ⟨rfl, rfl, rfl, by decide +kernel, rfl, by decide +kernel, by decide +kernel⟩
abbrev s_law_mixed : Stmt := topS 14
theorem sc_law_mixed : FnScope ["well", "size", "places", "found", "k"] ["well", "size"] (defScope s_law_mixed) := ⟨rfl, rfl, rfl, by decide +kernel, rfl, by decide +kernel, by decide +kernel⟩
abbrev s_law_ringed : Stmt := topS 15
theorem sc_law_ringed : FnScope ["well", "places", "longest", "found", "at", "k", "length", "ring", "j"] ["well", "places", "longest"] (defScope s_law_ringed) := ⟨rfl, rfl, rfl, by decide +kernel, rfl, by decide +kernel, by decide +kernel⟩
abbrev s_law_many : Stmt := topS 20
theorem sc_law_many : FnScope ["deck", "turns", "found", "place", "ring", "j"] ["deck", "turns"] (defScope s_law_many) := ⟨rfl, rfl, rfl, by decide +kernel, rfl, by decide +kernel, by decide +kernel⟩
abbrev s_turned : Stmt := topS 9
theorem sc_turned : FnScope ["shuffle", "times", "found", "ring", "at", "place"] ["shuffle", "times"] (defScope s_turned) := ⟨rfl, rfl, rfl, by decide +kernel, rfl, by decide +kernel, by decide +kernel⟩
abbrev s_law_deck : Stmt := topS 16
theorem sc_law_deck : FnScope ["well", "most", "size", "places"] ["well", "most"] (defScope s_law_deck) := ⟨rfl, rfl, rfl, by decide +kernel, rfl, by decide +kernel, by decide +kernel⟩
abbrev s_law_great_deck : Stmt := topS 17
theorem sc_law_great_deck : FnScope ["well", "size", "step", "places", "length", "found", "start", "ring", "j", "k"] ["well"] (defScope s_law_great_deck) := ⟨rfl, rfl, rfl, by decide +kernel, rfl, by decide +kernel, by decide +kernel⟩
abbrev s_law_deck_right : Stmt := topS 21
theorem sc_law_deck_right : FnScope ["well", "deck", "turns", "far", "still"] ["well", "deck"] (defScope s_law_deck_right) := ⟨rfl, rfl, rfl, by decide +kernel, rfl, by decide +kernel, by decide +kernel⟩
abbrev s_law_right : Stmt := topS 22
theorem sc_law_right : FnScope ["well", "turn"] ["well"] (defScope s_law_right) := ⟨rfl, rfl, rfl, by decide +kernel, rfl, by decide +kernel, by decide +kernel⟩
abbrev s_law : Stmt := topS 23
theorem sc_law : FnScope ["script", "k"] ["script"] (defScope s_law) := ⟨rfl, rfl, rfl, by decide +kernel, rfl, by decide +kernel, by decide +kernel⟩
/-- where the defs of the text stand behind the top -/
structure Txt (K : PySem.W.Frag) (mg : Str → Option Value) where
  a_is_whole : Addr
  d_is_whole : FuncData
  F_is_whole : Fun K "is_whole" "is_whole" s_is_whole a_is_whole d_is_whole
  g_is_whole : mg "is_whole" = some (.ref a_is_whole)
  a_rings_in : Addr
  d_rings_in : FuncData
  F_rings_in : Fun K "_rings_in" "_rings_in" s_rings_in a_rings_in d_rings_in
  g_rings_in : mg "_rings_in" = some (.ref a_rings_in)
  a_law_well : Addr
  d_law_well : FuncData
  F_law_well : Fun K "_law_well" "_law_well" s_law_well a_law_well d_law_well
  g_law_well : mg "_law_well" = some (.ref a_law_well)
  a_law_draw : Addr
  d_law_draw : FuncData
  F_law_draw : Fun K "_law_draw" "_law_draw" s_law_draw a_law_draw d_law_draw
  g_law_draw : mg "_law_draw" = some (.ref a_law_draw)
  a_law_ring_at : Addr
  d_law_ring_at : FuncData
  F_law_ring_at : Fun K "_law_ring_at" "_law_ring_at" s_law_ring_at a_law_ring_at d_law_ring_at
  g_law_ring_at : mg "_law_ring_at" = some (.ref a_law_ring_at)
  a_law_few : Addr
  d_law_few : FuncData
  F_law_few : Fun K "_law_few" "_law_few" s_law_few a_law_few d_law_few
  g_law_few : mg "_law_few" = some (.ref a_law_few)
  a_check_shuffle : Addr
  d_check_shuffle : FuncData
  F_check_shuffle : Fun K "check_shuffle" "check_shuffle" s_check_shuffle a_check_shuffle d_check_shuffle
  g_check_shuffle : mg "check_shuffle" = some (.ref a_check_shuffle)
  a_law_mixed : Addr
  d_law_mixed : FuncData
  F_law_mixed : Fun K "_law_mixed" "_law_mixed" s_law_mixed a_law_mixed d_law_mixed
  g_law_mixed : mg "_law_mixed" = some (.ref a_law_mixed)
  a_law_ringed : Addr
  d_law_ringed : FuncData
  F_law_ringed : Fun K "_law_ringed" "_law_ringed" s_law_ringed a_law_ringed d_law_ringed
  g_law_ringed : mg "_law_ringed" = some (.ref a_law_ringed)
  a_law_many : Addr
  d_law_many : FuncData
  F_law_many : Fun K "_law_many" "_law_many" s_law_many a_law_many d_law_many
  g_law_many : mg "_law_many" = some (.ref a_law_many)
  a_turned : Addr
  d_turned : FuncData
  F_turned : Fun K "turned" "turned" s_turned a_turned d_turned
  g_turned : mg "turned" = some (.ref a_turned)
  a_law_deck : Addr
  d_law_deck : FuncData
  F_law_deck : Fun K "_law_deck" "_law_deck" s_law_deck a_law_deck d_law_deck
  g_law_deck : mg "_law_deck" = some (.ref a_law_deck)
  a_law_great_deck : Addr
  d_law_great_deck : FuncData
  F_law_great_deck : Fun K "_law_great_deck" "_law_great_deck" s_law_great_deck a_law_great_deck d_law_great_deck
  g_law_great_deck : mg "_law_great_deck" = some (.ref a_law_great_deck)
  a_law_deck_right : Addr
  d_law_deck_right : FuncData
  F_law_deck_right : Fun K "_law_deck_right" "_law_deck_right" s_law_deck_right a_law_deck_right d_law_deck_right
  g_law_deck_right : mg "_law_deck_right" = some (.ref a_law_deck_right)
  a_law_right : Addr
  d_law_right : FuncData
  F_law_right : Fun K "_law_right" "_law_right" s_law_right a_law_right d_law_right
  g_law_right : mg "_law_right" = some (.ref a_law_right)
  a_law : Addr
  d_law : FuncData
  F_law : Fun K "law" "law" s_law a_law d_law
  g_law : mg "law" = some (.ref a_law)
  t_MOST_THINGS : Tok
  c_MOST_THINGS : mg "MOST_THINGS" = some (.int 300 t_MOST_THINGS)
  z_abs : mg "abs" = none
  z_all : mg "all" = none
  z_bool : mg "bool" = none
  z_enumerate : mg "enumerate" = none
  z_int : mg "int" = none
  z_isinstance : mg "isinstance" = none
  z_len : mg "len" = none
  z_list : mg "list" = none
  z_max : mg "max" = none
  z_min : mg "min" = none
  z_range : mg "range" = none
  z_repr : mg "repr" = none
  z_sorted : mg "sorted" = none
  z_tuple : mg "tuple" = none
section
variable {P : Program} {w : World} {K : PySem.W.Frag} {mg : Str → Option Value} {base : Heap}
theorem b_is_whole (T : Txt K mg) : Binds K T.d_is_whole ["value"] [] := T.F_is_whole.binds fun _ _ _ _ _ _ us hl => match us, hl with | [_], _ => rfl
theorem b_rings_in (T : Txt K mg) : Binds K T.d_rings_in ["shuffle"] [] := T.F_rings_in.binds fun _ _ _ _ _ _ us hl => match us, hl with | [_], _ => rfl
theorem b_law_well (T : Txt K mg) : Binds K T.d_law_well ["script", "k"] [] := T.F_law_well.binds fun _ _ _ _ _ _ us hl => match us, hl with | [_, _], _ => rfl
theorem b_law_draw (T : Txt K mg) : Binds K T.d_law_draw ["well", "many"] [] := T.F_law_draw.binds fun _ _ _ _ _ _ us hl => match us, hl with | [_, _], _ => rfl
theorem b_law_ring_at (T : Txt K mg) : Binds K T.d_law_ring_at ["deck", "place"] [] := T.F_law_ring_at.binds fun _ _ _ _ _ _ us hl => match us, hl with | [_, _], _ => rfl
theorem b_law_few (T : Txt K mg) : Binds K T.d_law_few ["deck", "turns"] [] := T.F_law_few.binds fun _ _ _ _ _ _ us hl => match us, hl with | [_, _], _ => rfl
theorem b_check_shuffle (T : Txt K mg) : Binds K T.d_check_shuffle ["shuffle"] [] := T.F_check_shuffle.binds fun _ _ _ _ _ _ us hl => match us, hl with | [_], _ => rfl
theorem b_law_mixed (T : Txt K mg) : Binds K T.d_law_mixed ["well", "size"] [] := T.F_law_mixed.binds fun _ _ _ _ _ _ us hl => match us, hl with | [_, _], _ => rfl
theorem b_law_ringed (T : Txt K mg) : Binds K T.d_law_ringed ["well", "places", "longest"] [] := T.F_law_ringed.binds fun _ _ _ _ _ _ us hl => match us, hl with | [_, _, _], _ => rfl
theorem b_law_many (T : Txt K mg) : Binds K T.d_law_many ["deck", "turns"] [] := T.F_law_many.binds fun _ _ _ _ _ _ us hl => match us, hl with | [_, _], _ => rfl
theorem b_turned (T : Txt K mg) : Binds K T.d_turned ["shuffle", "times"] [] := T.F_turned.binds fun _ _ _ _ _ _ us hl => match us, hl with | [_, _], _ => rfl
theorem b_law_deck (T : Txt K mg) : Binds K T.d_law_deck ["well", "most"] [] := T.F_law_deck.binds fun _ _ _ _ _ _ us hl => match us, hl with | [_, _], _ => rfl
theorem b_law_great_deck (T : Txt K mg) : Binds K T.d_law_great_deck ["well"] [] := T.F_law_great_deck.binds fun _ _ _ _ _ _ us hl => match us, hl with | [_], _ => rfl
theorem b_law_deck_right (T : Txt K mg) : Binds K T.d_law_deck_right ["well", "deck"] [] := T.F_law_deck_right.binds fun _ _ _ _ _ _ us hl => match us, hl with | [_, _], _ => rfl
theorem b_law_right (T : Txt K mg) : Binds K T.d_law_right ["well"] [] := T.F_law_right.binds fun _ _ _ _ _ _ us hl => match us, hl with | [_], _ => rfl
theorem b_law (T : Txt K mg) : Binds K T.d_law ["script"] [] := T.F_law.binds fun _ _ _ _ _ _ us hl => match us, hl with | [_], _ => rfl
theorem k_turned_0_times_shuffle (T : Txt K mg) : KBinds K T.d_turned ["shuffle", "times"] ["times", "shuffle"] (gK (α := Value) 0 2 [1, 0]) (gK (α := V) 0 2 [1, 0]) := by
  refine ⟨fun s us ws hK hl => ?_, fun {vs us zs ws} r rz => gK_rel r rz⟩
  have hc := gK_len hl (by decide)
  obtain ⟨oc, od, kV, doc, pm, an, cdv, ct, osl, e, lk, hcd⟩ := T.F_turned.ex
  match us, ws, hc with
  | [], [_, _], _ =>
    rw [e]
    exact .of_eq rfl
/-! ### is_whole -/
def sp_is_whole (K : PySem.W.Frag) : Sp := fun vs H Q _ => ∃ n : Int, vs = [.int n] ∧ RetV (.bl true) H Q
theorem v_is_whole {K : PySem.W.Frag} {H : Hp} (n : Int) : SpV (sp_is_whole K) [.int n] H (.bl true) := fun H1 e Q q E => ⟨n, rfl, q⟩
theorem ok_is_whole (T : Txt K mg) : FnG P w K mg base CX0 1 T.a_is_whole T.d_is_whole ["value"] (sp_is_whole K) := by
  refine okG T.F_is_whole sc_is_whole (fun vs H Q E h => ?_) (fun cdv A out s H vs Q E hr h => ?_)
  · obtain ⟨n, rfl, q⟩ := h
    rfl
  · obtain ⟨n, rfl, q⟩ := h
    refine ⟨_, (pss_one (ps_ret (pe_and (pe_callB (call_isiK' (K := K) rfl) (by rfl) T.z_isinstance bt_isinstance (pa_cons (pv 0) (pa_cons (pe_bltn (v := .ty "int") (by rfl) T.z_int bt_int rfl) pa_nil))) (pe_one (pe_not (pe_callB (call_isiK' (K := K) rfl) (by rfl) T.z_isinstance bt_isinstance (pa_cons (pv 0) (pa_cons (pe_bltn (v := .ty "bool") (by rfl) T.z_bool bt_bool rfl) pa_nil)))))))), ?_⟩
    exact s_ret (ev_andV (ev_isi (ev_var rfl) (fun _ _ => .base (.int n)) kb_int_int) fun _ => ev_notV (ev_isi (ev_var rfl) (fun _ _ => .base (.int n)) kb_int_bool)) q
/-! ### _rings_in -/
def sp_rings_in (K : PySem.W.Frag) : Sp := fun vs H Q _ => ∃ (a : Addr) (ds : List Int), vs = [.ref a] ∧ SqT K H a (vi ds) ∧ Shf ds ∧ (Rings ds (ringsL ds ds.length) ds.length → RetN (ringsL ds ds.length) H Q)
theorem n_rings_in {K : PySem.W.Frag} {H : Hp} {a : Addr} {ds : List Int} (h : SqT K H a (vi ds)) (s : Shf ds) : SpN (sp_rings_in K) [.ref a] H (ringsL ds ds.length) :=
  fun H1 e Q q E => ⟨a, ds, rfl, ex_t e h, s, fun _ => q⟩
theorem ok_rings_in (T : Txt K mg) : FnG P w K mg base CX0 1 T.a_rings_in T.d_rings_in ["shuffle"] (sp_rings_in K) := by
  refine okG T.F_rings_in sc_rings_in (fun vs H Q E h => ?_) (fun cdv A out s H vs Q E hr h => ?_)
  · obtain ⟨a, ds, rfl, hA, hs, q⟩ := h
    rfl
  · obtain ⟨a, ds, rfl, hA, hs, q⟩ := h
    refine ⟨_, (pss_cons (ps_set (i := 1) sc_rings_in.nd rfl (.inl rfl) (pe_lst pa_nil))
    (pss_cons (ps_set (i := 2) sc_rings_in.nd rfl (.inl rfl) (pe_op op_rep (pe_lst (pa_cons pe_bl pa_nil)) (pe_callB (call_lenK (K := K) rfl) (by rfl) T.z_len bt_len (pa_cons (pv 0) pa_nil))))
    (pss_cons (ps_for PassesOwn.never rfl (pi_range1 (by rfl) T.z_range (pa_cons (pe_callB (call_lenK (K := K) rfl) (by rfl) T.z_len bt_len (pa_cons (pv 0) pa_nil)) pa_nil)) (pg_name (i := 3) sc_rings_in.nd rfl (.inl rfl))
      (pss_one (ps_if (pt_not (pt_val (pe_ix (ix_listK (K := K) rfl) (pv 2) (pv 3) (fun _ _ => rfl))))
        (pss_cons (ps_set (i := 4) sc_rings_in.nd rfl (.inl rfl) (pe_lst pa_nil))
        (pss_cons (ps_set (i := 5) sc_rings_in.nd rfl (.inl rfl) (pv 3))
        (pss_cons (ps_while PassesOwn.never (pt_not (pt_val (pe_ix (ix_listK (K := K) rfl) (pv 2) (pv 5) (fun _ _ => rfl))))
          (pss_cons (ps_asg pe_bl (pg_sub (pv 2) (pv 5) set_list))
          (pss_cons (ps_expr (pe_bm PySem.F.plainAttrs_list PySem.F.slot_list_append PySem.F.type_list_append mt_append (pv 4) (pa_cons (pv 5) pa_nil)))
          (pss_one (ps_set (i := 5) sc_rings_in.nd rfl (.inl rfl) (pe_ix (ix_tupK (K := K) rfl) (pv 0) (pv 5) (fun _ _ => rfl)))))))
        (pss_one (ps_expr (pe_bm PySem.F.plainAttrs_list PySem.F.slot_list_append PySem.F.type_list_append mt_append (pv 1) (pa_cons (pv 4) pa_nil)))))))
        pss_nil)))
    (pss_one (ps_ret (pv 1)))))), ?_⟩
    have hl : ((vi ds).length : Int) = (ds.length : Int) := by rw [List.length_map]
    have h3 := hs.2.1
    refine q_asgL (el_lst ea_nil (Nat.zero_le _)) fun pf H1 f1 e1 h1 => ?_
    refine q_asgL (xs := marks ds.length []) (el_is (el_rep (n := (ds.length : Int)) (el_lst (ea_cons ev_c ea_nil) (by show 1 ≤ 100000; decide)) (fun H1 e2 => ev_is (ev_lenT (ev_var rfl) (ex_t (e1.trans e2) hA)) (by rw [hl])) (by omega) (by show 1 * _ ≤ _; omega) (by omega)) (by rw [Int.toNat_natCast]; exact marks_nil _)) fun ps H2 f2 e2 h2 => ?_
    have g1 := e2 _ _ h1
    have nsf : ps ≠ pf := ne_of_none' f2 h1
    have fs : H ps = none := fresh_back e1 f2
    refine q_forR1 (n := (ds.length : Int)) (ea_cons (ev_is (ev_lenT (ev_var rfl) (ex_t (e1.trans e2) hA)) (by rw [hl])) ea_nil) (by omega)
      (fun i σ' H' => ∃ (qs : List Addr) (y3 y4 y5 : Option V), σ' = [some (.ref a), some (.ref pf), some (.ref ps), y3, y4, y5] ∧ Ex H H' ∧ H' pf = some (.lst (qs.map .ref)) ∧ H' ps = some (.lst (marks ds.length (ringsL ds i).flatten)) ∧ Nest H' qs (ringsL ds i) ∧ (∀ q ∈ qs, q ≠ pf ∧ q ≠ ps ∧ H q = none) ∧ Rings ds (ringsL ds i) i) ?_ ?_ ?_
    · intro H3 e3
      exact ⟨[], _, _, _, rfl, (e1.trans e2).trans e3, e3 _ _ g1, e3 _ _ h2, Nest.nil, (fun q h => nomatch h), Rings.nil ds⟩
    · rintro i σ' H' hi ⟨qs, y3, y4, y5, rfl, e, gf, gs, ne, nq, rg⟩
      have hi' : i < ds.length := by omega
      by_cases hm : i ∈ (ringsL ds i).flatten
      · have er : ringsL ds (i + 1) = ringsL ds i := if_pos hm
        refine s_when (b := false) (et_not (a := true) (et_test (ev_is (ev_op (ev_var rfl) (ev_var rfl) (rv_ixL (sq_of gs) (atI_nat (marks_at _ hi')))) (by rw [decide_eq_true hm])))) (fun h => nomatch h) fun _ H3 e3 => ?_
        refine ⟨qs, _, _, _, rfl, e.trans e3, e3 _ _ gf, ?_, ?_, nq, ?_⟩
        · rw [er]
          exact e3 _ _ gs
        · rw [er]
          exact ne.ex e3
        · rw [er]
          exact rg.skip hm
      · have er : ringsL ds (i + 1) = ringsL ds i ++ [ringL ds i] := if_neg hm
        refine s_when (b := true) (et_not (a := false) (et_test (ev_is (ev_op (ev_var rfl) (ev_var rfl) (rv_ixL (sq_of gs) (atI_nat (marks_at _ hi')))) (by rw [decide_eq_false hm])))) (fun _ H3 e3 => ?_) (fun h => nomatch h)
        refine q_asgL (el_lst ea_nil (Nat.zero_le _)) fun pr H4 f4 e4 h4 => ?_
        have fr : H pr = none := fresh_back (e.trans e3) f4
        have nrf : pr ≠ pf := ne_of_none' f4 (e3 _ _ gf)
        have nrs : pr ≠ ps := ne_of_none' f4 (e3 _ _ gs)
        have nrq : ∀ q ∈ qs, q ≠ pr := fun q hq => ne.ne (ne.ex e3) hq f4
        refine q_asg (ev_var rfl) fun H5 e5 => ?_
        have e35 := (e3.trans e4).trans e5
        have M0 : (ringsL ds i).flatten.length ≤ ds.length := nlen_le rg.nd rg.lt
        refine q_while (fun m σ' H' => ∃ j, σ' = [some (.ref a), some (.ref pf), some (.ref ps), some (.int (i : Int)), some (.ref pr), some (.int (orb ds i j : Int))] ∧ Ex H H' ∧ H' pf = some (.lst (qs.map .ref)) ∧ H' ps = some (.lst (marks ds.length ((ringsL ds i).flatten ++ track ds i j))) ∧ H' pr = some (.lst (vi (up (track ds i j)))) ∧ Nest H' qs (ringsL ds i) ∧
          ((ringsL ds i).flatten ++ track ds i j).Nodup ∧ m + ((ringsL ds i).flatten.length + j) = ds.length) (ds.length - (ringsL ds i).flatten.length) ?_ ?_
        · refine ⟨0, rfl, e.trans e35, e35 _ _ gf, ?_, e5 _ _ h4, ne.ex e35, ?_, by omega⟩
          · show _ = some (HO.lst (marks ds.length ((ringsL ds i).flatten ++ [])))
            rw [List.append_nil]
            exact e35 _ _ gs
          · show ((ringsL ds i).flatten ++ []).Nodup
            rw [List.append_nil]
            exact rg.nd
        · rintro m σ'' H'' ⟨j, rfl, e', gf', gs', gr', ne', nd, hm'⟩
          have ho := orb_lt hs hi' j
          by_cases hmm : orb ds i j ∈ (ringsL ds i).flatten ++ track ds i j
          · refine ⟨false, et_not (a := true) (et_test (ev_is (ev_op (ev_var rfl) (ev_var rfl) (rv_ixL (sq_of gs') (atI_nat (marks_at _ ho)))) (by rw [decide_eq_true hmm]))), (fun h => nomatch h), fun _ H6 e6 => ?_⟩
            have hr := ring_close hs hi' hm (rg.fro hs) nd hmm
            refine s_app (e6 _ _ gf') (ev_var rfl) (ev_var rfl) ?_ fun H7 e7 => ?_
            · have : (ringsL ds i).length ≤ (ringsL ds i).flatten.length := rings_le fun r h => (rg.ring r h).pos
              rw [List.length_map, ne.1]
              omega
            refine ⟨qs ++ [pr], _, _, _, rfl, ((e'.trans e6).trans e7).mut (fresh_back (Ex.refl H) f1), ?_, ?_, ?_, ?_, ?_⟩
            · rw [upd_same, List.map_append]
              rfl
            · rw [upd_ne nsf, er, List.flatten_append, List.flatten_singleton, ← track_is hr]
              exact e7 _ _ (e6 _ _ gs')
            · rw [er, ← track_is hr]
              refine Nest.put (((ne'.ex e6).ex e7).upd fun q hq => (nq q hq).1) ?_
              rw [upd_ne nrf]
              exact e7 _ _ (e6 _ _ gr')
            · intro q hq
              rcases List.mem_append.mp hq with h | h
              · exact nq q h
              · rw [List.mem_singleton.mp h]
                exact ⟨nrf, nrs, fr⟩
            · rw [er, ← track_is hr]
              exact rg.put hr nd
          · refine ⟨true, et_not (a := false) (et_test (ev_is (ev_op (ev_var rfl) (ev_var rfl) (rv_ixL (sq_of gs') (atI_nat (marks_at _ ho)))) (by rw [decide_eq_false hmm]))), fun _ H6 e6 => ?_, (fun h => nomatch h)⟩
            have nd2 : ((ringsL ds i).flatten ++ track ds i (j + 1)).Nodup := by
              rw [track_succ, ← List.append_assoc]
              refine List.nodup_append.mpr ⟨nd, List.pairwise_singleton _ _, fun x hx y hy e => ?_⟩
              rw [List.mem_singleton.mp hy] at e
              exact hmm (e ▸ hx)
            have lt2 : ((ringsL ds i).flatten ++ track ds i (j + 1)).length ≤ ds.length := by
              refine nlen_le nd2 fun x hx => ?_
              rcases List.mem_append.mp hx with h | h
              · exact rg.lt x h
              · obtain ⟨t, _, rfl⟩ := List.mem_map.mp h
                exact orb_lt hs hi' t
            rw [List.length_append, track_length] at lt2
            refine ⟨_, fun σ2 H2 h => ⟨m - 1, by omega, h⟩, ?_⟩
            refine q_setL (j := orb ds i j) (e6 _ _ gs') ev_c (ev_var rfl) (ev_var rfl) (by rw [marks_length]; exact ho) fun H7 e7 => ?_
            refine q_app (xs := vi (up (track ds i j))) ?_ (ev_var rfl) (ev_var rfl) (by rw [List.length_map, up_length, track_length]; omega) fun H8 e8 => ?_
            · rw [upd_ne nrs]
              exact e7 _ _ (e6 _ _ gr')
            have eA : Ex H (upd H7 ps (.lst (marks ds.length ((ringsL ds i).flatten ++ track ds i j ++ [orb ds i j])))) := ((e'.trans e6).trans e7).mut fs
            rw [marks_set _ ho] at e8
            refine s_asg (ev_op (ev_var rfl) (ev_var rfl) (rv_ixT (ex_t ((eA.trans e8).mut fr) hA) (atI_nat (nx_at hs ho)))) fun H9 e9 => ?_
            refine ⟨j + 1, rfl, (((eA.trans e8).mut fr).trans e9), ?_, ?_, ?_, ?_, nd2, by omega⟩
            · refine e9 _ _ ?_
              rw [upd_ne (Ne.symm nrf)]
              refine e8 _ _ ?_
              rw [upd_ne (Ne.symm nsf)]
              exact e7 _ _ (e6 _ _ gf')
            · refine e9 _ _ ?_
              rw [upd_ne (Ne.symm nrs)]
              refine e8 _ _ ?_
              rw [upd_same, track_succ, List.append_assoc]
            · refine e9 _ _ ?_
              rw [upd_same, track_succ]
              unfold up vi
              simp only [List.map_append]
              rfl
            · refine ((((((ne'.ex e6).ex e7).upd fun q hq => (nq q hq).2.1).ex e8).upd nrq).ex e9)
    · rintro σ' H' ⟨qs, y3, y4, y5, rfl, e, gf, gs, ne, nq, rg⟩
      rw [Int.toNat_natCast] at gs ne rg
      refine s_ret (ev_var rfl) fun H3 e3 => ?_
      exact q rg pf qs H3 f1 (e.trans e3) (e3 _ _ gf) (ne.ex e3) fun b hb => (nq b hb).2.2
/-! ### _law_well -/
def sp_law_well (K : PySem.W.Frag) : Sp := fun vs H Q _ => ∃ (a : Addr) (ns : List Int) (k : Int), vs = [.ref a, .int k] ∧ SqL K H a (vi ns) ∧ 0 ≤ k ∧ k ≤ 63 ∧ ∀ p H2, H p = none → Ex H H2 → Well H2 p 0 → Q (.ref p) H2
theorem ok_law_well (T : Txt K mg) : FnG P w K mg base CX0 1 T.a_law_well T.d_law_well ["script", "k"] (sp_law_well K) := by
  refine okG T.F_law_well sc_law_well (fun vs H Q E h => ?_) (fun cdv A out s H vs Q E hr h => ?_)
  · obtain ⟨a, ns, k, rfl, hS, h0, h1, q⟩ := h
    rfl
  · obtain ⟨a, ns, k, rfl, hS, h0, h1, q⟩ := h
    refine ⟨_, (pss_cons (ps_set (i := 2) sc_law_well.nd rfl (.inl rfl) (pe_ifExp (pt_cmpR op_lt (pv 1) (pe_callB (call_lenK (K := K) rfl) (by rfl) T.z_len bt_len (pa_cons (pv 0) pa_nil)) (nomark _)) (pe_callB call_abs (by rfl) T.z_abs bt_abs (pa_cons (pe_callTy call_int1 (by rfl) T.z_int bt_int (pa_cons (pe_ix (ix_listK (K := K) rfl) (pv 0) (pv 1) (fun _ _ => rfl)) pa_nil)) pa_nil)) (pe_op op_mul pe_int (pv 1))))
    (pss_one (ps_ret (pe_lst (pa_cons (pe_callB (call_max2 rfl) (by rfl) T.z_max bt_max (pa_cons pe_int (pa_cons (pe_op op_sub (pv 2) (pe_op op_powW pe_int pe_int)) pa_nil))) (pa_cons (pe_op op_add (pe_op op_add (pe_op op_mod (pe_callTy call_int1 (by rfl) T.z_int bt_int (pa_cons (pv 2) pa_nil)) (pe_op op_add (pe_op op_powW pe_int pe_int) pe_int)) (pe_op op_mul pe_int (pv 1))) pe_int) (pa_cons pe_int pa_nil))))))), ?_⟩
    refine q_asg (v := .int (if k < (ns.length : Int) then (if ns.getD k.toNat 0 < 0 then -ns.getD k.toNat 0 else ns.getD k.toNat 0) else 41 * k)) ?_ fun H1 e1 => ?_
    · by_cases hk : k < ns.length
      · obtain ⟨j, rfl⟩ : ∃ j : Nat, k = j := ⟨k.toNat, by omega⟩
        have hj : j < ns.length := by omega
        have hx : (vi ns)[j]? = some (.int (ns.getD j 0)) := by
          rw [vi_at hj, List.getD_eq_getElem?_getD, List.getElem?_eq_getElem hj]
          rfl
        rw [if_pos hk]
        exact ev_if (b := true) (et_test (ev_op (ev_var rfl) (ev_len (ev_var rfl) hS) (rv_b (decide_eq_true (by rw [List.length_map]; exact hk))))) (fun _ => ev_abs (ev_int1 (ev_op (ev_var rfl) (ev_var rfl) (rv_ixL hS (atI_nat hx))))) (fun h => nomatch h)
      · rw [if_neg hk]
        exact ev_if (b := false) (et_test (ev_op (ev_var rfl) (ev_len (ev_var rfl) hS) (rv_b (decide_eq_false (by rw [List.length_map]; exact hk))))) (fun h => nomatch h) (fun _ => ev_op ev_c (ev_var rfl) (rv_I (cml (by decide))))
    generalize (if k < (ns.length : Int) then (if ns.getD k.toNat 0 < 0 then -ns.getD k.toNat 0 else ns.getD k.toNat 0) else 41 * k) = cell
    refine s_retL (xs := [_, _, _]) (el_lst (ea_cons (ev_max2 ev_c (ev_op (ev_var rfl) (ev_op ev_c ev_c (rv_I (cpw (by decide) (by decide) (by decide)))) rv_I0)) (ea_cons (ev_op (ev_op (ev_op (ev_int1 (ev_var rfl)) (ev_op (ev_op ev_c ev_c (rv_I (cpw (by decide) (by decide) (by decide)))) ev_c rv_I0) (rv_I (by have := p10_pos (Int.toNat 36); omega))) (ev_op ev_c (ev_var rfl) (rv_I (cml (by decide)))) rv_I0) ev_c rv_I0) (ea_cons ev_c ea_nil))) (by show 3 ≤ 100000; decide)) fun p H2 hp e2 h2 => ?_
    refine q p H2 (fresh_back e1 hp) (e1.trans e2) ⟨_, _, _, h2, ?_, ?_, by decide, by decide⟩
    · have := Int.emod_nonneg cell (show (10 : Int) ^ Int.toNat 36 + 67 ≠ 0 by have := p10_pos (Int.toNat 36); omega)
      omega
    · have := Int.emod_lt_of_pos cell (show (0 : Int) < 10 ^ Int.toNat 36 + 67 by have := p10_pos (Int.toNat 36); omega)
      have e : (10 : Int) ^ Int.toNat 36 = 1000000000000000000000000000000000000 := by decide
      omega
/-! ### _law_draw -/
abbrev sp_law_draw := sp_dr
theorem ok_law_draw (T : Txt K mg) : FnG P w K mg base CX0 1 T.a_law_draw T.d_law_draw ["well", "many"] (sp_law_draw K) := by
  refine okG T.F_law_draw sc_law_draw (fun vs H Q E h => ?_) (fun cdv A out s H vs Q E hr h => ?_)
  · obtain ⟨a, n, m, rfl, ⟨x, y, c, hW, y0, y1, c0, c1⟩, hn, m0, m1, q⟩ := h
    rfl
  · obtain ⟨a, n, m, rfl, ⟨x, y, c, hW, y0, y1, c0, c1⟩, hn, m0, m1, q⟩ := h
    refine ⟨_, (pss_cons (ps_if (pt_cmpR op_gt (pe_ix (ix_listK (K := K) rfl) (pv 0) pe_int (fun _ _ => rfl)) pe_int (nomark _))
      (pss_cons (ps_set (i := 2) sc_law_draw.nd rfl (.inl rfl) (pe_op op_mod (pe_callTy call_int1 (by rfl) T.z_int bt_int (pa_cons (pe_ix (ix_listK (K := K) rfl) (pv 0) pe_int (fun _ _ => rfl)) pa_nil)) (pv 1)))
      (pss_cons (ps_asg (pe_op op_fdivW (pe_ix (ix_listK (K := K) rfl) (pv 0) pe_int (fun _ _ => rfl)) (pv 1)) (pg_sub (pv 0) pe_int set_list))
      (pss_one (ps_ret (pv 2)))))
      pss_nil)
    (pss_cons (ps_asg (pe_op op_add (pe_ix (ix_listK (K := K) rfl) (pv 0) pe_int (fun _ _ => rfl)) pe_int) (pg_sub (pv 0) pe_int set_list))
    (pss_cons (ps_set (i := 3) sc_law_draw.nd rfl (.inl rfl) (pe_op op_mod (pe_callTy call_int1 (by rfl) T.z_int bt_int (pa_cons (pe_op op_powW (pe_op op_add (pe_ix (ix_listK (K := K) rfl) (pv 0) pe_int (fun _ _ => rfl)) (pe_op op_mul pe_int (pe_ix (ix_listK (K := K) rfl) (pv 0) pe_int (fun _ _ => rfl)))) pe_int) pa_nil)) (pe_op op_add (pe_op op_powW pe_int pe_int) pe_int)))
    (pss_cons (ps_set (i := 3) sc_law_draw.nd rfl (.inl rfl) (pe_op op_mod (pe_callTy call_int1 (by rfl) T.z_int bt_int (pa_cons (pe_op op_powW (pe_op op_add (pv 3) (pe_op op_mul pe_int (pe_ix (ix_listK (K := K) rfl) (pv 0) pe_int (fun _ _ => rfl)))) pe_int) pa_nil)) (pe_op op_add (pe_op op_powW pe_int pe_int) pe_int)))
    (pss_one (ps_ret (pe_op op_mod (pe_callTy call_int1 (by rfl) T.z_int bt_int (pa_cons (pe_op op_fdivW (pv 3) (pe_op op_powW pe_int pe_int)) pa_nil)) (pv 1)))))))), ?_⟩
    have hS := sq_of (K := K) hW
    by_cases hx : 0 < x
    · refine q_when (b := true) (et_test (ev_op (ev_op (ev_var rfl) ev_c (rv_ixL hS rfl)) ev_c (rv_b (decide_eq_true hx)))) (fun _ H1 e1 => ?_) (fun h => nomatch h)
      refine q_asg (ev_op (ev_int1 (ev_op (ev_var rfl) ev_c (rv_ixL (ex_l e1 hS) rfl))) (ev_var rfl) (rv_I m0)) fun H2 e2 => ?_
      have hW2 := e2 _ _ (e1 _ _ hW)
      refine q_setL (j := 0) hW2 (ev_op (ev_op (ev_var rfl) ev_c (rv_ixL (sq_of hW2) rfl)) (ev_var rfl) (rv_I (cdw8 _ m0 m1))) (ev_var rfl) ev_c (by show 0 < 3; decide) fun H3 e3 => ?_
      refine s_ret (ev_var rfl) fun H4 e4 => ?_
      refine q _ H4 (((But.ex ((e1.trans e2).trans e3)).trans .at).trans (But.ex e4)) ⟨_, _, _, e4 _ _ upd_same, y0, y1, c0, by omega⟩ (Int.emod_nonneg _ (by omega)) (Int.emod_lt_of_pos _ m0)
    · refine q_when (b := false) (et_test (ev_op (ev_op (ev_var rfl) ev_c (rv_ixL hS rfl)) ev_c (rv_b (decide_eq_false hx)))) (fun h => nomatch h) (fun _ H1 e1 => ?_)
      have hW1 := e1 _ _ hW
      refine q_setL (j := 2) hW1 (ev_op (ev_op (ev_var rfl) ev_c (rv_ixL (sq_of hW1) rfl)) ev_c rv_I0) (ev_var rfl) ev_c (by show 2 < 3; decide) fun H2 e2 => ?_
      have hW2 : upd H2 a (.lst ([.int x, .int y, .int c].set 2 (.int (c + 1)))) a = some (.lst [.int x, .int y, .int (c + 1)]) := upd_same
      have hS2 := sq_of (K := K) hW2
      refine q_asg (ev_op (ev_int1 (ev_op (ev_op (ev_op (ev_var rfl) ev_c (rv_ixL hS2 rfl)) (ev_op ev_c (ev_op (ev_var rfl) ev_c (rv_ixL hS2 rfl)) (rv_I (cml (by decide)))) rv_I0) ev_c (rv_I (cpw (by omega) (by decide) (by decide))))) (ev_op (ev_op ev_c ev_c (rv_I (cpw (by decide) (by decide) (by decide)))) ev_c rv_I0) (rv_I (by have := p10_pos (Int.toNat 43); omega))) fun H3 e3 => ?_
      have hS3 := ex_l e3 hS2
      have b0 := Int.emod_nonneg ((y + 15485863 * (c + 1)) ^ Int.toNat 5) (show (10 : Int) ^ Int.toNat 43 + 63 ≠ 0 by have := p10_pos (Int.toNat 43); omega)
      have b1 := Int.emod_lt_of_pos ((y + 15485863 * (c + 1)) ^ Int.toNat 5) (show (0 : Int) < 10 ^ Int.toNat 43 + 63 by have := p10_pos (Int.toNat 43); omega)
      have e43 : (10 : Int) ^ Int.toNat 43 = 10000000000000000000000000000000000000000000 := by decide
      refine q_asg (ev_op (ev_int1 (ev_op (ev_op (ev_var rfl) (ev_op ev_c (ev_op (ev_var rfl) ev_c (rv_ixL hS3 rfl)) (rv_I (cml (by decide)))) rv_I0) ev_c (rv_I (cpw (by omega) (by decide) (by decide))))) (ev_op (ev_op ev_c ev_c (rv_I (cpw (by decide) (by decide) (by decide)))) ev_c rv_I0) (rv_I (by have := p10_pos (Int.toNat 41); omega))) fun H4 e4 => ?_
      refine s_ret (ev_op (ev_int1 (ev_op (ev_var rfl) (ev_op ev_c ev_c (rv_I (cpw (by decide) (by decide) (by decide)))) (rv_I (cdw _ (p10_pos _) (by decide))))) (ev_var rfl) (rv_I m0)) fun H5 e5 => ?_
      refine q _ H5 ((((But.ex (e1.trans e2)).trans .at).trans (But.ex (e3.trans e4))).trans (But.ex e5)) ⟨_, _, _, e5 _ _ (e4 _ _ (e3 _ _ hW2)), y0, y1, by omega, by omega⟩ (Int.emod_nonneg _ (by omega)) (Int.emod_lt_of_pos _ m0)
/-! ### _law_ring_at -/
def sp_law_ring_at (K : PySem.W.Frag) : Sp := fun vs H Q _ => ∃ (a : Addr) (ds : List Int) (i : Nat), vs = [.ref a, .int (i : Int)] ∧ SqT K H a (vi ds) ∧ Shf ds ∧ i < ds.length ∧ RetL (vi (up (ringL ds i))) H Q
theorem l_law_ring_at {K : PySem.W.Frag} {H : Hp} {a : Addr} {ds : List Int} {i : Nat} (h : SqT K H a (vi ds)) (s : Shf ds) (hi : i < ds.length) : SpL (sp_law_ring_at K) [.ref a, .int (i : Int)] H (vi (up (ringL ds i))) :=
  fun H1 e Q q E => ⟨a, ds, i, rfl, ex_t e h, s, hi, q⟩
theorem ok_law_ring_at (T : Txt K mg) : FnG P w K mg base CX0 1 T.a_law_ring_at T.d_law_ring_at ["deck", "place"] (sp_law_ring_at K) := by
  refine okG T.F_law_ring_at sc_law_ring_at (fun vs H Q E h => ?_) (fun cdv A out s H vs Q E hr h => ?_)
  · obtain ⟨a, ds, i, rfl, hA, hs, hi, q⟩ := h
    rfl
  · obtain ⟨a, ds, i, rfl, hA, hs, hi, q⟩ := h
    refine ⟨_, (pss_cons (ps_par (i := 2) (j := 3) (by rfl) sc_law_ring_at.nd rfl rfl (by decide) rfl rfl (pa_cons (pe_lst (pa_cons (pv 1) pa_nil)) (pa_cons (pe_ix (ix_tupK (K := K) rfl) (pv 0) (pv 1) (fun _ _ => rfl)) pa_nil)) (by rfl))
    (pss_cons (ps_for PassesOwn.never rfl (pi_range1 (by rfl) T.z_range (pa_cons (pe_callB (call_lenK (K := K) rfl) (by rfl) T.z_len bt_len (pa_cons (pv 0) pa_nil)) pa_nil)) (pg_name (i := 4) sc_law_ring_at.nd rfl (.inl rfl))
      (pss_cons (ps_if (pt_cmpR op_eq (pv 3) (pv 1) (nomark _))
        (pss_one ps_break)
        pss_nil)
      (pss_cons (ps_expr (pe_bm PySem.F.plainAttrs_list PySem.F.slot_list_append PySem.F.type_list_append mt_append (pv 2) (pa_cons (pv 3) pa_nil)))
      (pss_one (ps_set (i := 3) sc_law_ring_at.nd rfl (.inl rfl) (pe_ix (ix_tupK (K := K) rfl) (pv 0) (pv 3) (fun _ _ => rfl)))))))
    (pss_one (ps_ret (pv 2))))), ?_⟩
    have h3 := hs.2.1
    obtain ⟨p1, p2⟩ := per_pos hs hi
    have hl : ((vi ds).length : Int) = (ds.length : Int) := by rw [List.length_map]
    refine q_parLV (xs := vi (up (track ds i 1))) (el_lst (ea_cons (ev_var rfl) ea_nil) (by show 1 ≤ 100000; decide)) (fun p H1 _ e1 _ => ev_op (ev_var rfl) (ev_var rfl) (rv_ixT (ex_t e1 hA) (atI_nat (nx_at hs hi)))) fun p H1 f1 e1 h1 => ?_
    refine q_forR1 (n := (ds.length : Int)) (ea_cons (ev_is (ev_lenT (ev_var rfl) (ex_t e1 hA)) (by rw [hl])) ea_nil) (by omega)
      (fun k σ' H' => ∃ (y4 : Option V), σ' = [some (.ref a), some (.int (i : Int)), some (.ref p), some (.int (orb ds i (k + 1) : Int)), y4] ∧ Ex H H' ∧ H' p = some (.lst (vi (up (track ds i (k + 1))))) ∧ k + 1 ≤ per ds i) ?_ ?_ ?_
    · intro H2 e2
      exact ⟨_, rfl, e1.trans e2, e2 _ _ h1, p1⟩
    · rintro k σ' H' hk ⟨y4, rfl, e, g, hp⟩
      by_cases c : k + 1 = per ds i
      · have eb : orb ds i (k + 1) = i := (orb_back hs hi _).mpr (by rw [c, Nat.mod_self])
        refine q_when (b := true) (et_is (et_test (ev_op (ev_var rfl) (ev_var rfl) (rv_eq rfl))) (by rw [eb]; simp)) (fun _ H2 e2 => ?_) (fun h => nomatch h)
        refine s_ret (ev_var rfl) fun H3 e3 => ?_
        have g3 := e3 _ _ (e2 _ _ g)
        rw [c] at g3
        exact q p H3 f1 ((e.trans e2).trans e3) g3
      · have nb : orb ds i (k + 1) ≠ i := fun z => by
          have := (orb_back hs hi _).mp z
          rw [Nat.mod_eq_of_lt (by omega)] at this
          omega
        refine q_when (b := false) (et_is (et_test (ev_op (ev_var rfl) (ev_var rfl) (rv_eq rfl))) (by
          refine decide_eq_false fun z => nb ?_
          have := V.int.inj z
          omega)) (fun h => nomatch h) fun _ H2 e2 => ?_
        refine q_app (e2 _ _ g) (ev_var rfl) (ev_var rfl) (by rw [List.length_map, up_length, track_length]; omega) fun H3 e3 => ?_
        have ee := (((e.trans e2).trans e3).mut f1 (o := .lst (vi (up (track ds i (k + 1))) ++ [.int (orb ds i (k + 1) : Int)])))
        refine s_asg (ev_op (ev_var rfl) (ev_var rfl) (rv_ixT (ex_t ee hA) (atI_nat (nx_at hs (orb_lt hs hi _))))) fun H4 e4 => ?_
        refine ⟨_, rfl, ee.trans e4, ?_, by omega⟩
        refine e4 _ _ ?_
        rw [upd_same, track_succ ds i (k + 1)]
        unfold up vi
        simp only [List.map_append]
        rfl
    · rintro σ' H' ⟨y4, rfl, e, g, hp⟩
      rw [Int.toNat_natCast] at hp
      omega
/-! ### _law_few -/
def sp_law_few (K : PySem.W.Frag) : Sp := fun vs H Q _ => ∃ (a : Addr) (ds : List Int) (t : Int), vs = [.ref a, .int t] ∧ SqT K H a (vi ds) ∧ Shf ds ∧ (-300 ≤ t ∧ t ≤ 300) ∧ RetU (vi (turnL ds t)) H Q
theorem u_law_few {K : PySem.W.Frag} {H : Hp} {a : Addr} {ds : List Int} {t : Int} (h : SqT K H a (vi ds)) (s : Shf ds) (h2 : (-300 ≤ t ∧ t ≤ 300)) : SpU (sp_law_few K) [.ref a, .int t] H (vi (turnL ds t)) :=
  fun H1 e Q q E => ⟨a, ds, t, rfl, ex_t e h, s, h2, q⟩
theorem ok_law_few (T : Txt K mg) : FnG P w K mg base CX0 1 T.a_law_few T.d_law_few ["deck", "turns"] (sp_law_few K) := by
  refine okG T.F_law_few sc_law_few (fun vs H Q E h => ?_) (fun cdv A out s H vs Q E hr h => ?_)
  · obtain ⟨a, ds, t, rfl, hA, hs, ⟨t0, t1⟩, q⟩ := h
    rfl
  · obtain ⟨a, ds, t, rfl, hA, hs, ⟨t0, t1⟩, q⟩ := h
    refine ⟨_, (pss_cons (ps_set (i := 2) sc_law_few.nd rfl (.inr rfl) (pe_callTy (call_listK (K := K) rfl) (by rfl) T.z_list bt_list (pa_cons (pv 0) pa_nil)))
    (pss_cons (ps_if (pt_cmpR op_lt (pv 1) pe_int (nomark _))
      (pss_one (ps_for PassesOwn.never rfl (pi_range1 (by rfl) T.z_range (pa_cons (pe_callB (call_lenK (K := K) rfl) (by rfl) T.z_len bt_len (pa_cons (pv 0) pa_nil)) pa_nil)) (pg_name (i := 3) sc_law_few.nd rfl (.inl rfl))
        (pss_one (ps_asg (pv 3) (pg_sub (pv 2) (pe_ix (ix_tupK (K := K) rfl) (pv 0) (pv 3) (fun _ _ => rfl)) set_list)))))
      pss_nil)
    (pss_cons (ps_set (i := 4) sc_law_few.nd rfl (.inl rfl) (pe_listRg rfl (by rfl) T.z_list (prg_1 (by rfl) T.z_range (pe_callB (call_lenK (K := K) rfl) (by rfl) T.z_len bt_len (pa_cons (pv 0) pa_nil)))))
    (pss_cons (ps_for PassesOwn.never rfl (pi_range1 (by rfl) T.z_range (pa_cons (pe_callB call_abs (by rfl) T.z_abs bt_abs (pa_cons (pv 1) pa_nil)) pa_nil)) (pg_name (i := 5) sc_law_few.nd rfl (.inl rfl))
      (pss_one (ps_setLc (i := 4) (own := [("place", 3)]) (g := gName 3) rfl sc_law_few.nd rfl rfl (sw_true rfl rfl rfl (by decide +kernel)) (pi_listK (K := K) rfl (pv 4)) (blkOk_by (own := [("place", 3)]) (N := ["deck", "turns", "step", "place", "here", "turn"]) (sc := defScope s_law_few) (by decide +kernel)) (fun _ _ _ _ _ => (pg_name (i := 3) sc_law_few.nd rfl (Or.inl rfl))) (fun _ _ _ _ _ => pts_nil) (fun _ _ _ _ _ => (pe_ix (ix_listK (K := K) rfl) (pv 2) (pv 3) (fun _ _ => rfl))))))
    (pss_one (ps_ret (pe_callTy (call_tupleK (K := K) rfl) (by rfl) T.z_tuple bt_tuple (pa_cons (pv 4) pa_nil)))))))), ?_⟩
    have h3 := hs.2.1
    have hl : ((vi ds).length : Int) = (ds.length : Int) := by rw [List.length_map]
    refine q_asgL (el_listT (ev_var rfl) hA) fun ps H1 f1 e1 h1 => ?_
    refine q_when (b := decide (t < 0)) (et_test (ev_op (ev_var rfl) ev_c (rv_b rfl))) (fun hb H2 e2 => ?_) (fun hb H2 e2 => ?_)
    · have ht := of_decide_eq_true hb
      refine s_forR1 (n := (ds.length : Int)) (ea_cons (ev_is (ev_lenT (ev_var rfl) (ex_t (e1.trans e2) hA)) (by rw [hl])) ea_nil) (by omega) (fun i σ' H' => ∃ (S : List Int) (y3 : Option V), σ' = [some (.ref a), some (.int t), some (.ref ps), y3, none, none] ∧ Ex H H' ∧ H' ps = some (.lst (vi S)) ∧ S.length = ds.length ∧ ∀ x, x < i → S.getD (nx ds x) 0 = (x : Int)) ?_ ?_ ?_
      · intro H3 e3
        exact ⟨ds, _, rfl, (e1.trans e2).trans e3, e3 _ _ (e2 _ _ h1), rfl, fun x h => absurd h (Nat.not_lt_zero _)⟩
      · rintro i σ' H' hi ⟨S, y3, rfl, e, gs, lS, inv⟩
        have hi' : i < ds.length := by omega
        have hn := nx_lt hs hi'
        refine s_setL (j := nx ds i) gs (ev_var rfl) (ev_var rfl) (ev_op (ev_var rfl) (ev_var rfl) (rv_ixT (ex_t e hA) (atI_nat (nx_at hs hi')))) (by rw [List.length_map, lS]; exact hn) fun H3 e3 => ?_
        rw [vi_set]
        refine ⟨S.set (nx ds i) (i : Int), _, rfl, (e.trans e3).mut f1, upd_same, by rw [List.length_set]; exact lS, fun x hx => ?_⟩
        rw [set_getD (by rw [lS]; exact hn)]
        by_cases c : x = i
        · rw [c, if_pos rfl]
        · rw [if_neg fun z => c (nx_inj hs (by omega) hi' z)]
          exact inv x (by omega)
      · rintro σ' H' ⟨S, y3, rfl, eS, hS, lS, inv⟩
        rw [Int.toNat_natCast] at inv
        have g0 : ∀ i, i < ds.length → (fun i (k : Nat) => tn ds (-(k : Int)) i) i 0 = i := fun i hi => tn_nat hs 0 hi
        have gl : ∀ i k, i < ds.length → (fun i (k : Nat) => tn ds (-(k : Int)) i) i k < ds.length := fun i k hi => tn_lt hs _ hi
        have gs' : ∀ i k, i < ds.length → S.getD ((fun i (k : Nat) => tn ds (-(k : Int)) i) i k) 0 = (((fun i (k : Nat) => tn ds (-(k : Int)) i) i (k + 1) : Nat) : Int) := fun i k hi => by
          have e := tn_step hs (-((k + 1 : Nat) : Int)) hi
          rw [show -((k + 1 : Nat) : Int) + 1 = -(k : Int) by omega] at e
          show S.getD (tn ds (-(k : Int)) i) 0 = _
          rw [← e]
          exact inv _ (tn_lt hs _ hi)
        have ge : ∀ i, i < ds.length → (fun i (k : Nat) => tn ds (-(k : Int)) i) i t.natAbs = tn ds t i := fun i hi => by
          show tn ds (-((t.natAbs : Nat) : Int)) i = _
          rw [show -((t.natAbs : Nat) : Int) = t by omega]
        generalize (fun i (k : Nat) => tn ds (-(k : Int)) i) = g at g0 gl gs' ge
        refine q_asgL (xs := vi (up ((List.range ds.length).map fun i => g i 0))) (el_is (el_rg1 (n := (ds.length : Int)) (ev_is (ev_lenT (ev_var rfl) (ex_t eS hA)) (by rw [hl])) (by omega) (by omega)) (by
          rw [rgV_iota]
          refine congrArg vi ?_
          unfold iota up
          rw [List.map_map]
          exact List.map_congr_left fun i hi => by
            show (i : Int) = ((g i 0 : Nat) : Int)
            rw [g0 i (List.mem_range.mp hi)])) fun ph H3 f3 e3 h3' => ?_
        refine q_forR1 (n := ((t.natAbs : Nat) : Int)) (ea_cons (ev_is (ev_abs (ev_var rfl)) (by congr 1; split <;> omega)) ea_nil) (by omega) (fun k σ' H' => ∃ (ph : Addr) (y3 y5 : Option V), σ' = [some (.ref a), some (.int t), some (.ref ps), y3, some (.ref ph), y5] ∧ Ex H H' ∧ H' ps = some (.lst (vi S)) ∧ H' ph = some (.lst (vi (up ((List.range ds.length).map fun i => g i k))))) ?_ ?_ ?_
        · intro H4 e4
          exact ⟨ph, _, _, rfl, (eS.trans e3).trans e4, e4 _ _ (e3 _ _ hS), e4 _ _ h3'⟩
        · rintro k σ' H' hk ⟨ph, y3, y5, rfl, e, gs, gh⟩
          refine s_asgL (xs := vi (up ((List.range ds.length).map fun i => g i (k + 1)))) (el_is (el_lcL (fun _ => true) (fun i => V.int ((g i (k + 1) : Nat) : Int)) (ev_var rfl) (sq_of gh) (by rw [List.length_map, up_length, List.length_map, List.length_range]; omega) (fun _ => rfl) (fun _ _ _ _ _ => et_yes) ?_) ?_) fun p4 H4 f4 e4 g4 => ⟨p4, _, _, rfl, e.trans e4, e4 _ _ gs, g4⟩
          · intro i x H4 e4 hx _
            have hi : i < ds.length := by
              have := (List.getElem?_eq_some_iff.mp hx).1
              rw [List.length_map, up_length, List.length_map, List.length_range] at this
              exact this
            rw [up_at (by rw [List.length_map, List.length_range]; exact hi)] at hx
            cases hx
            have ge : ((List.range ds.length).map fun i => g i k).getD i 0 = g i k := by
              rw [List.getD_eq_getElem?_getD, List.getElem?_map, List.getElem?_range hi]
              rfl
            rw [ge]
            refine ev_op (ev_var rfl) (ev_var rfl) (rv_ixL (sq_of (e4 _ _ gs)) (atI_nat ?_))
            have hg : g i k < S.length := by rw [lS]; exact gl i k hi
            rw [vi_at hg, ← gs' i k hi, List.getD_eq_getElem?_getD, List.getElem?_eq_getElem hg]
            rfl
          · rw [List.length_map, up_length, List.length_map, List.length_range, given_ints]
            unfold up
            rw [List.map_map]
            rfl
        · rintro σ' H' ⟨ph, y3, y5, rfl, e, gs, gh⟩
          rw [Int.toNat_natCast] at gh
          have eT : up ((List.range ds.length).map fun i => g i t.natAbs) = turnL ds t := by
            unfold up turnL
            rw [List.map_map]
            refine List.map_congr_left fun i hi => ?_
            show ((g i t.natAbs : Nat) : Int) = _
            rw [ge i (List.mem_range.mp hi)]
          rw [eT] at gh
          exact s_retU (eu_tupOf (ev_var rfl) (sq_of gh)) fun r H5 hr e5 h5 => q r H5 (fresh_back e hr) (e.trans e5) h5
    · have ht := of_decide_eq_false hb
      have eS := e1.trans e2
      have hS := e2 _ _ h1
      have lS : ds.length = ds.length := rfl
      have g0 : ∀ i, i < ds.length → (fun i (k : Nat) => orb ds i k) i 0 = i := fun i hi => rfl
      have gl : ∀ i k, i < ds.length → (fun i (k : Nat) => orb ds i k) i k < ds.length := fun i k hi => orb_lt hs hi k
      have gs' : ∀ i k, i < ds.length → ds.getD ((fun i (k : Nat) => orb ds i k) i k) 0 = (((fun i (k : Nat) => orb ds i k) i (k + 1) : Nat) : Int) := fun i k hi => nx_get hs (orb_lt hs hi k)
      have ge : ∀ i, i < ds.length → (fun i (k : Nat) => orb ds i k) i t.natAbs = tn ds t i := fun i hi => by
        show orb ds i t.natAbs = _
        rw [← tn_nat hs _ hi, show ((t.natAbs : Nat) : Int) = t by omega]
      generalize (fun i (k : Nat) => orb ds i k) = g at g0 gl gs' ge
      refine q_asgL (xs := vi (up ((List.range ds.length).map fun i => g i 0))) (el_is (el_rg1 (n := (ds.length : Int)) (ev_is (ev_lenT (ev_var rfl) (ex_t eS hA)) (by rw [hl])) (by omega) (by omega)) (by
        rw [rgV_iota]
        refine congrArg vi ?_
        unfold iota up
        rw [List.map_map]
        exact List.map_congr_left fun i hi => by
          show (i : Int) = ((g i 0 : Nat) : Int)
          rw [g0 i (List.mem_range.mp hi)])) fun ph H3 f3 e3 h3' => ?_
      refine q_forR1 (n := ((t.natAbs : Nat) : Int)) (ea_cons (ev_is (ev_abs (ev_var rfl)) (by congr 1; split <;> omega)) ea_nil) (by omega) (fun k σ' H' => ∃ (ph : Addr) (y3 y5 : Option V), σ' = [some (.ref a), some (.int t), some (.ref ps), y3, some (.ref ph), y5] ∧ Ex H H' ∧ H' ps = some (.lst (vi ds)) ∧ H' ph = some (.lst (vi (up ((List.range ds.length).map fun i => g i k))))) ?_ ?_ ?_
      · intro H4 e4
        exact ⟨ph, _, _, rfl, (eS.trans e3).trans e4, e4 _ _ (e3 _ _ hS), e4 _ _ h3'⟩
      · rintro k σ' H' hk ⟨ph, y3, y5, rfl, e, gs, gh⟩
        refine s_asgL (xs := vi (up ((List.range ds.length).map fun i => g i (k + 1)))) (el_is (el_lcL (fun _ => true) (fun i => V.int ((g i (k + 1) : Nat) : Int)) (ev_var rfl) (sq_of gh) (by rw [List.length_map, up_length, List.length_map, List.length_range]; omega) (fun _ => rfl) (fun _ _ _ _ _ => et_yes) ?_) ?_) fun p4 H4 f4 e4 g4 => ⟨p4, _, _, rfl, e.trans e4, e4 _ _ gs, g4⟩
        · intro i x H4 e4 hx _
          have hi : i < ds.length := by
            have := (List.getElem?_eq_some_iff.mp hx).1
            rw [List.length_map, up_length, List.length_map, List.length_range] at this
            exact this
          rw [up_at (by rw [List.length_map, List.length_range]; exact hi)] at hx
          cases hx
          have ge : ((List.range ds.length).map fun i => g i k).getD i 0 = g i k := by
            rw [List.getD_eq_getElem?_getD, List.getElem?_map, List.getElem?_range hi]
            rfl
          rw [ge]
          refine ev_op (ev_var rfl) (ev_var rfl) (rv_ixL (sq_of (e4 _ _ gs)) (atI_nat ?_))
          have hg : g i k < ds.length := by rw [lS]; exact gl i k hi
          rw [vi_at hg, ← gs' i k hi, List.getD_eq_getElem?_getD, List.getElem?_eq_getElem hg]
          rfl
        · rw [List.length_map, up_length, List.length_map, List.length_range, given_ints]
          unfold up
          rw [List.map_map]
          rfl
      · rintro σ' H' ⟨ph, y3, y5, rfl, e, gs, gh⟩
        rw [Int.toNat_natCast] at gh
        have eT : up ((List.range ds.length).map fun i => g i t.natAbs) = turnL ds t := by
          unfold up turnL
          rw [List.map_map]
          refine List.map_congr_left fun i hi => ?_
          show ((g i t.natAbs : Nat) : Int) = _
          rw [ge i (List.mem_range.mp hi)]
        rw [eT] at gh
        exact s_retU (eu_tupOf (ev_var rfl) (sq_of gh)) fun r H5 hr e5 h5 => q r H5 (fresh_back e hr) (e.trans e5) h5
/-! ### check_shuffle -/
def sp_check_shuffle (K : PySem.W.Frag) : Sp := fun vs H Q _ => ∃ (a : Addr) (ns : List Int), vs = [.ref a] ∧ SqT K H a (vi ns) ∧ Shf ns ∧ RetV .non H Q
theorem v_check_shuffle {K : PySem.W.Frag} {H : Hp} {a : Addr} {ns : List Int} (h : SqT K H a (vi ns)) (s : Shf ns) : SpV (sp_check_shuffle K) [.ref a] H .non := fun H1 e Q q E => ⟨a, ns, rfl, ex_t e h, s, q⟩
theorem ok_check_shuffle (T : Txt K mg) : FnG P w K mg base CX0 2 T.a_check_shuffle T.d_check_shuffle ["shuffle"] (sp_check_shuffle K) := by
  refine okG T.F_check_shuffle sc_check_shuffle (fun vs H Q E h => ?_) (fun cdv A out s H vs Q E hr h => ?_)
  · obtain ⟨a, ns, rfl, hS, sh, q⟩ := h
    rfl
  · obtain ⟨a, ns, rfl, hS, sh, q⟩ := h
    refine ⟨_, (pss_cons (ps_if (PW.pt (pw_or (pt_not (pt_val (pe_callB (call_isiK' (K := K) rfl) (by rfl) T.z_isinstance bt_isinstance (pa_cons (pv 0) (pa_cons (pe_bltn (v := .ty "tuple") (by rfl) T.z_tuple bt_tuple rfl) pa_nil))))) (pw_or1 (pt_not (pt_chain op_le op_le pe_int (pe_callB (call_lenK (K := K) rfl) (by rfl) T.z_len bt_len (pa_cons (pv 0) pa_nil)) (pe_glob (v := .int 300) rfl T.c_MOST_THINGS ⟨_, rfl⟩))))))
      (pss_one ps_never)
      pss_nil)
    (pss_cons (ps_if (pt_not (pt_val (pe_callB (cr_allK (K := K) rfl rfl) (by rfl) T.z_all bt_all (pa_cons (pe_lc (own := [("place", 1)]) (g := gName 1) rfl sc_check_shuffle.nd (pi_tupK (K := K) rfl (pv 0)) (blkOk_by (own := [("place", 1)]) (N := ["shuffle", "place"]) (sc := defScope s_check_shuffle) (by decide +kernel)) (fun _ _ _ _ _ => (pg_name (i := 1) sc_check_shuffle.nd rfl (Or.inl rfl))) (fun _ _ _ _ _ => pts_nil) (fun _ _ _ _ _ => (callG (ok_is_whole T) (hr.mono (by decide)) (by rfl) T.g_is_whole T.F_is_whole.kp (b_is_whole T) .nil pass0 (pa_cons (pv 1) pa_nil)))) pa_nil))))
      (pss_one ps_never)
      pss_nil)
    (pss_one (ps_if (pt_cmpR (op_neDK (K := K) rfl hr.rm.units) (pe_callB cr_sortedTup (by rfl) T.z_sorted bt_sorted (pa_cons (pv 0) pa_nil)) (pe_listRg rfl (by rfl) T.z_list (prg_1 (by rfl) T.z_range (pe_callB (call_lenK (K := K) rfl) (by rfl) T.z_len bt_len (pa_cons (pv 0) pa_nil)))) (nomark _))
      (pss_one ps_never)
      pss_nil)))), ?_⟩
    have hl : ((vi ns).length : Int) = (ns.length : Int) := by rw [List.length_map]
    have hs := sh
    obtain ⟨s0, s1, s2⟩ := sh
    refine q_when (b := false) (et_or (a := false) (b := false) (et_not (a := true) (et_B (ev_isi (ev_var rfl) (fun H1 e => ty_seqt (ex_t e hS)) kb_tuple_tuple))) fun _ => et_not (a := true) (et_test (ev_chain (a := true) (b := true) ev_c (ev_lenT (ev_var rfl) hS) (rv_b (decide_eq_true (by omega))) (fun _ => ev_c) fun _ => rv_b (decide_eq_true (by omega))))) (fun h => nomatch h) fun _ H1 e1 => ?_
    refine q_when (b := false) (et_not (a := true) (et_B (ev_is (ev_allN (bs := List.replicate ns.length true) (el_is (el_lcT (fun _ => true) (fun _ => V.bl true) (ev_var rfl) (ex_t e1 hS) (by rw [List.length_map]; omega) (fun _ => rfl) (fun _ _ _ _ _ => et_yes) ?_) ?_)) ?_))) (fun h => nomatch h) fun _ H2 e2 => ?_
    · intro i x H2 e2 hx _
      obtain ⟨m, rfl, hm, hg⟩ := vi_inv hx
      exact ev_call (ea_cons (ev_var rfl) ea_nil) (v_is_whole m)
    · rw [given_all, List.length_map, List.map_replicate]
      refine List.ext_getElem? fun i => ?_
      rw [List.getElem?_map, List.getElem?_replicate]
      by_cases hi : i < ns.length
      · rw [List.getElem?_range hi, if_pos hi]
        rfl
      · rw [List.getElem?_eq_none (by rw [List.length_range]; omega), if_neg hi]
        rfl
    · rw [show (List.replicate ns.length true).all id = true by simp]
    refine s_when (b := false) (et_is (et_test (ev_neLL (el_sortedT (ev_var rfl) (ex_t (e1.trans e2) hS) s2 (iota_sorted _)) (el_is (el_rg1 (ev_is (ev_lenT (ev_var rfl) (ex_t (e1.trans e2) hS)) (by rw [hl])) (by omega) (by omega)) (rgV_iota _)))) (by simp)) (fun h => nomatch h) fun _ H3 e3 => ?_
    exact q H3 ((e1.trans e2).trans e3)
/-! ### _law_mixed -/
def sp_law_mixed (K : PySem.W.Frag) : Sp := fun vs H Q _ => ∃ (a : Addr) (n m : Nat), vs = [.ref a, .int (m : Int)] ∧ Well H a n ∧ m ≤ 300 ∧ n + 300 ≤ 2 ^ 50 ∧ ∀ p ns H2, H p = none → But a H H2 → Well H2 a (n + 300) → H2 p = some (.lst (vi ns)) → ns.Perm (iota m) → Q (.ref p) H2
theorem wl_law_mixed {K : PySem.W.Frag} {E : XK} {σ : L2.St} {H : Hp} {a : Addr} {i : Nat} {te : TE} {m : Nat} (hσ : σ[i]? = some (some (.ref a))) (h : Ev te σ (hid a H) (.int (m : Int))) (hm : m ≤ 300) :
    EvWL a 300 (tCall (sp_law_mixed K) [] E (tCons (tVar i) (tCons te tNil))) σ H (fun xs => ∃ ns, xs = vi ns ∧ ns.Perm (iota m)) :=
  fun n H1 b w l Q q => ⟨.ref a, hσ, h H1 (ex_hid b) _ fun H2 e2 => ⟨a, n, m, rfl, w.ex e2, hm, l, fun p ns H3 hp b3 w3 h3 ok => q p (vi ns) H3 (fresh_back e2 hp) ((But.ex e2).trans b3) w3 h3 ⟨ns, rfl, ok⟩⟩⟩
theorem ok_law_mixed (T : Txt K mg) : FnG P w K mg base CX0 2 T.a_law_mixed T.d_law_mixed ["well", "size"] (sp_law_mixed K) := by
  refine okG T.F_law_mixed sc_law_mixed (fun vs H Q E h => ?_) (fun cdv A out s H vs Q E hr h => ?_)
  · obtain ⟨a, n, m, rfl, hw, hm, hn, q⟩ := h
    rfl
  · obtain ⟨a, n, m, rfl, hw, hm, hn, q⟩ := h
    refine ⟨_, (pss_cons (ps_par (i := 2) (j := 3) (by rfl) sc_law_mixed.nd rfl rfl (by decide) rfl rfl (pa_cons (pe_listRg rfl (by rfl) T.z_list (prg_1 (by rfl) T.z_range (pv 1))) (pa_cons (pe_lst pa_nil) pa_nil)) (by rfl))
    (pss_cons (ps_for PassesOwn.never rfl (pi_range1 (by rfl) T.z_range (pa_cons (pv 1) pa_nil)) (pg_name (i := 4) sc_law_mixed.nd rfl (.inl rfl))
      (pss_one (ps_expr (pe_bm PySem.F.plainAttrs_list PySem.F.slot_list_append PySem.F.type_list_append mt_append (pv 3) (pa_cons (pe_bm PySem.F.plainAttrs_list PySem.F.slot_list_pop PySem.F.type_list_pop mt_popAt (pv 2) (pa_cons (callG (ok_law_draw T) (hr.mono (by decide)) (by rfl) T.g_law_draw T.F_law_draw.kp (b_law_draw T) .nil pass0 (pa_cons (pv 0) (pa_cons (pe_callB (call_lenK (K := K) rfl) (by rfl) T.z_len bt_len (pa_cons (pv 2) pa_nil)) pa_nil))) pa_nil)) pa_nil)))))
    (pss_one (ps_ret (pv 3))))), ?_⟩
    refine q_parLL (el_is (el_rg1 (ev_var rfl) (by omega) (by omega)) (rgV_iota m)) (fun p H1 _ _ _ => el_lst ea_nil (Nat.zero_le _)) fun p1 p2 H1 f1 f2 ne e1 h1 h2 => ?_
    have n1 : p1 ≠ a := hw.ne f1
    have n2 : p2 ≠ a := hw.ne f2
    refine q_forR1 (n := (m : Int)) (ea_cons (ev_var rfl) ea_nil) (by omega) (fun i σ' H' => ∃ ps fs y4, σ' = [some (.ref a), some (.int (m : Int)), some (.ref p1), some (.ref p2), y4] ∧ But a H H' ∧ Well H' a (n + i) ∧ H' p1 = some (.lst (vi ps)) ∧ H' p2 = some (.lst (vi fs)) ∧ ps.length + i = m ∧ fs.length = i ∧ (fs ++ ps).Perm (iota m)) ?_ ?_ ?_
    · intro H2 e2
      exact ⟨iota m, [], _, rfl, But.ex (e1.trans e2), hw.ex (e1.trans e2), e2 _ _ h1, e2 _ _ h2, by rw [iota_length]; rfl, rfl, List.Perm.refl _⟩
    · rintro i σ' H' hi ⟨ps, fs, y4, rfl, b, w, g1, g2, l1, l2, pm⟩
      refine ⟨.ref p2, rfl, .inl ⟨rfl, _, sq_of g2⟩, .ref p1, rfl, .inl ⟨rfl, _, sq_of g1⟩, ?_⟩
      have hl : ((vi ps).length : Int) = (ps.length : Int) := by rw [List.length_map]
      have g1' : SqL K (hid a H') p1 (vi ps) := sq_of (by rw [hid_ne n1]; exact g1)
      refine (ew_drawC (m := (ps.length : Int)) rfl (ev_is (ev_len (ev_var rfl) g1') (by rw [hl])) (by omega) (lt8000 (by omega))) _ H' (But.refl a H') w (by omega) _ ?_
      rintro v H2 b2 w2 ⟨r, rfl, r0, r1⟩
      obtain ⟨k, rfl⟩ : ∃ k : Nat, r = k := ⟨r.toNat, by omega⟩
      have hk : k < ps.length := by omega
      have c1 := b2 _ _ n1 g1
      have c2 := b2 _ _ n2 g2
      refine ⟨p1, vi ps, k, k, .int ps[k], rfl, rfl, c1, by omega, by omega, (ixN_seq (ixN_nat (by rw [List.length_map]; exact hk))).1, vi_at hk, ?_⟩
      refine ⟨p2, vi fs, _, rfl, rfl, by rw [upd_ne (Ne.symm ne)]; exact c2, sz_lt (by rw [List.length_map]; omega), ?_⟩
      refine ⟨ps.eraseIdx k, fs ++ [ps[k]], _, rfl, ((b.trans b2).own f1).own f2, ?_, ?_, ?_, ?_, ?_, ?_⟩
      · obtain ⟨x, y, c, q1, q2⟩ := w2
        exact ⟨x, y, c, by rw [upd_ne (Ne.symm n2), upd_ne (Ne.symm n1)]; exact q1, q2⟩
      · rw [upd_ne ne, upd_same, vi_erase]
      · rw [upd_same]
        show some (HO.lst (vi fs ++ vi [ps[k]])) = _
        rw [vi_app]
      · rw [List.length_eraseIdx_of_lt hk]
        omega
      · rw [List.length_append, l2]
        rfl
      · refine List.Perm.trans ?_ pm
        rw [List.append_assoc]
        exact List.Perm.append_left fs (erase_perm hk)
    · rintro σ' H' ⟨ps, fs, y4, rfl, b, w, g1, g2, l1, l2, pm⟩
      have e0 : ps = [] := List.length_eq_zero_iff.mp (by omega)
      subst e0
      rw [List.append_nil] at pm
      refine s_ret (ev_var rfl) fun H3 e3 => ?_
      exact q p2 fs H3 f2 (b.trans (But.ex e3)) ((w.ex e3).mono (by omega)) (e3 _ _ g2) pm
/-! ### _law_ringed -/
def sp_law_ringed (K : PySem.W.Frag) : Sp := fun vs H Q _ => ∃ (a b : Addr) (n : Nat) (longest : Int) (pl : List Int), vs = [.ref a, .ref b, .int longest] ∧ Well H a n ∧ b ≠ a ∧ SqL K H b (vi pl) ∧ Shf pl ∧ 1 ≤ longest ∧ longest ≤ 400 ∧ n + 300 ≤ 2 ^ 50 ∧
  ∀ p ns H2, H p = none → But a H H2 → Well H2 a (n + 300) → H2 p = some (.tup (vi ns)) → Shf ns → ns.length = pl.length → Q (.ref p) H2

theorem wu_law_ringed {K : PySem.W.Frag} {E : XK} {σ : L2.St} {H : Hp} {a : Addr} {i : Nat} {tl te : TE} {pl : List Int} {longest : Int} (hσ : σ[i]? = some (some (.ref a))) (h : EvL tl σ (hid a H) (vi pl)) (h2 : Ev te σ (hid a H) (.int longest)) (sh : Shf pl) (l0 : 1 ≤ longest) (l1 : longest ≤ 400) :
    EvWU a 300 (tCall (sp_law_ringed K) [] E (tCons (tVar i) (tCons tl (tCons te tNil)))) σ H (fun xs => ∃ ns, xs = vi ns ∧ Shf ns ∧ ns.length = pl.length) :=
  fun n H1 b w l Q q => ⟨.ref a, hσ, h H1 (ex_hid b) _ fun p H2 hp e2 g2 => h2 H2 ((ex_hid b).trans e2) _ fun H3 e3 => ⟨a, p, n, longest, pl, rfl, w.ex (e2.trans e3), w.ne hp, sq_of (e3 _ _ g2), sh, l0, l1, l, fun r ns H4 hr b4 w4 h4 s el => q r (vi ns) H4 (fresh_back (e2.trans e3) hr) ((But.ex (e2.trans e3)).trans b4) w4 h4 ⟨ns, rfl, s, el⟩⟩⟩
theorem ok_law_ringed (T : Txt K mg) : FnG P w K mg base CX0 2 T.a_law_ringed T.d_law_ringed ["well", "places", "longest"] (sp_law_ringed K) := by
  refine okG T.F_law_ringed sc_law_ringed (fun vs H Q E h => ?_) (fun cdv A out s H vs Q E hr h => ?_)
  · obtain ⟨a, b, n, longest, pl, rfl, hw, nb, hP, sh, lo0, lo1, hn, q⟩ := h
    rfl
  · obtain ⟨a, b, n, longest, pl, rfl, hw, nb, hP, sh, lo0, lo1, hn, q⟩ := h
    refine ⟨_, (pss_cons (ps_par (i := 3) (j := 4) (by rfl) sc_law_ringed.nd rfl rfl (by decide) rfl rfl (pa_cons (pe_op op_rep (pe_lst (pa_cons pe_int pa_nil)) (pe_callB (call_lenK (K := K) rfl) (by rfl) T.z_len bt_len (pa_cons (pv 1) pa_nil))) (pa_cons pe_int pa_nil)) (by rfl))
    (pss_cons (ps_for PassesOwn.never rfl (pi_range1 (by rfl) T.z_range (pa_cons (pe_callB (call_lenK (K := K) rfl) (by rfl) T.z_len bt_len (pa_cons (pv 1) pa_nil)) pa_nil)) (pg_name (i := 5) sc_law_ringed.nd rfl (.inl rfl))
      (pss_one (ps_if (pt_cmpR op_lt (pv 4) (pe_callB (call_lenK (K := K) rfl) (by rfl) T.z_len bt_len (pa_cons (pv 1) pa_nil)) (nomark _))
        (pss_cons (ps_set (i := 6) sc_law_ringed.nd rfl (.inl rfl) (pe_callB (call_min2 rfl) (by rfl) T.z_min bt_min (pa_cons (pe_op op_sub (pe_callB (call_lenK (K := K) rfl) (by rfl) T.z_len bt_len (pa_cons (pv 1) pa_nil)) (pv 4)) (pa_cons (pe_op op_add pe_int (callG (ok_law_draw T) (hr.mono (by decide)) (by rfl) T.g_law_draw T.F_law_draw.kp (b_law_draw T) .nil pass0 (pa_cons (pv 0) (pa_cons (pv 2) pa_nil)))) pa_nil))))
        (pss_cons (ps_set (i := 7) sc_law_ringed.nd rfl (.inl rfl) (pe_slice (sl_listK (K := K) rfl) (pv 1) (po_some (pv 4)) (po_some (pe_op op_add (pv 4) (pv 6)))))
        (pss_cons (ps_for PassesOwn.never rfl (pi_range1 (by rfl) T.z_range (pa_cons (pv 6) pa_nil)) (pg_name (i := 8) sc_law_ringed.nd rfl (.inl rfl))
          (pss_one (ps_asg (pe_ix (ix_listK (K := K) rfl) (pv 7) (pe_op op_mod (pe_callTy call_int1 (by rfl) T.z_int bt_int (pa_cons (pe_op op_add (pv 8) pe_int) pa_nil)) (pv 6)) (fun _ _ => rfl)) (pg_sub (pv 3) (pe_ix (ix_listK (K := K) rfl) (pv 7) (pv 8) (fun _ _ => rfl)) set_list))))
        (pss_one (ps_set (i := 4) sc_law_ringed.nd rfl (.inl rfl) (pe_op op_add (pv 4) (pv 6)))))))
        pss_nil)))
    (pss_one (ps_ret (pe_callTy (call_tupleK (K := K) rfl) (by rfl) T.z_tuple bt_tuple (pa_cons (pv 3) pa_nil)))))), ?_⟩
    have hl : ((vi pl).length : Int) = (pl.length : Int) := by rw [List.length_map]
    have hs := sh
    obtain ⟨s0, s1, s2⟩ := sh
    refine q_parLV (el_is (el_rep (n := (pl.length : Int)) (el_lst (ea_cons ev_c ea_nil) (by show 1 ≤ 100000; decide)) (fun H1 e1 => ev_is (ev_len (ev_var rfl) (ex_l e1 hP)) (by rw [hl])) (by omega) (by show 1 * _ ≤ _; omega) (by omega)) (flat_rep _ _)) (fun _ _ _ _ _ => ev_c) fun p H1 fp e1 h1 => ?_
    have np : p ≠ a := hw.ne fp
    rw [Int.toNat_natCast] at h1
    refine q_forR1 (n := (pl.length : Int)) (ea_cons (ev_is (ev_len (ev_var rfl) (ex_l e1 hP)) (by rw [hl])) ea_nil) (by omega) (fun i σ' H' => ∃ (F : List Int) (t : Nat) (y5 y6 y7 y8 : Option V), σ' = [some (.ref a), some (.ref b), some (.int longest), some (.ref p), some (.int (t : Int)), y5, y6, y7, y8] ∧ But a H H' ∧ Well H' a (n + i) ∧ H' p = some (.lst (vi F)) ∧ t ≤ pl.length ∧ (i ≤ t ∨ t = pl.length) ∧ RingInv pl F t) ?_ ?_ ?_
    · intro H2 e2
      exact ⟨List.replicate pl.length 0, 0, _, _, _, _, rfl, But.ex (e1.trans e2), hw.ex (e1.trans e2), e2 _ _ h1, Nat.zero_le _, .inl (Nat.le_refl _), List.length_replicate, List.Perm.refl _⟩
    · rintro i σ' H' hi ⟨F, t, y5, y6, y7, y8, rfl, bt, w, g, ht, hit, inv⟩
      have hP' : SqL K H' b (vi pl) := bt.seq nb hP
      by_cases hlt : t < pl.length
      · refine s_when (b := true) (et_test (ev_op (ev_var rfl) (ev_len (ev_var rfl) hP') (rv_b (decide_eq_true (by omega))))) (fun _ H2 e2 => ?_) (fun h => nomatch h)
        have hP2 : SqL K (hid a H2) b (vi pl) := by
          have := (bt.trans (But.ex e2)).seq nb hP
          rcases this with (h | ⟨o, h⟩) | h
          · exact .inl (.inl (by rw [hid_ne nb]; exact h))
          · exact .inl (.inr ⟨o, by rw [hid_ne nb]; exact h⟩)
          · exact .inr h
        refine qw_asg (ew_min2 (P := fun r => 1 ≤ r ∧ r ≤ (pl.length : Int) - t) (ew_pure (P := fun v => ∃ r, v = .int r ∧ r = (pl.length : Int) - t) (ev_op (ev_len (ev_var rfl) hP2) (ev_var rfl) rv_I0) ⟨_, rfl, by rw [hl]⟩)
          (ew_add (P := fun r => 1 ≤ r) (ew_c (P := fun r => r = 1) rfl) (ew_drawC (m := longest) rfl (ev_var rfl) (by omega) (lt8000 (by omega))) (fun x y hx hy => by omega)) (fun x y hx hy => by split <;> omega)) (w.ex e2) (by omega) ?_
        rintro v H3 b3 w3 ⟨r, rfl, r0, r1⟩
        obtain ⟨len, rfl⟩ : ∃ k : Nat, r = k := ⟨r.toNat, by omega⟩
        have hP3 : SqL K H3 b (vi pl) := ((bt.trans (But.ex e2)).trans b3).seq nb hP
        have g3 := b3 _ _ np (e2 _ _ g)
        refine q_asgL (el_sl (ev_var rfl) (eo_some (ev_var rfl)) (eo_some (ev_op (ev_var rfl) (ev_var rfl) rv_I0)) hP3) fun pr H4 fr e4 h4 => ?_
        rw [cut_mid (by rw [List.length_map]; omega)] at h4
        have gr : ∀ j, j < len → ((vi pl).drop t |>.take len)[j]? = some (.int (pl.getD (t + j) 0)) := fun j hj => by
          rw [List.getElem?_take_of_lt hj, List.getElem?_drop, vi_at (show t + j < pl.length by omega), List.getD_eq_getElem?_getD, List.getElem?_eq_getElem (show t + j < pl.length by omega)]
          rfl
        have nr : pr ≠ a := w3.ne fr
        have npr : p ≠ pr := ne_of_none g3 fr
        refine q_forR1 (n := (len : Int)) (ea_cons (ev_var rfl) ea_nil) (by omega) (fun j σ' H' => ∃ (F' : List Int) (y8 : Option V), σ' = [some (.ref a), some (.ref b), some (.int longest), some (.ref p), some (.int (t : Int)), some (.int (i : Int)), some (.int (len : Int)), some (.ref pr), y8] ∧ But a H H' ∧ Well H' a (n + (i + 1)) ∧ H' p = some (.lst (vi F')) ∧ H' pr = some (.lst ((vi pl).drop t |>.take len)) ∧ F'.length = pl.length ∧
          (∀ q ∈ pl.take t, look F' q = look F q) ∧ ∀ j', j' < j → look F' (pl.getD (t + j') 0) = pl.getD (t + (j' + 1) % len) 0) ?_ ?_ ?_
        · intro H5 e5
          exact ⟨F, _, rfl, ((bt.trans (But.ex e2)).trans b3).trans (But.ex (e4.trans e5)), (w3.ex (e4.trans e5)).mono (by omega), e5 _ _ (e4 _ _ g3), e5 _ _ h4, inv.1, fun _ _ => rfl, fun j' h => absurd h (Nat.not_lt_zero _)⟩
        · rintro j σ'' H'' hj ⟨F', z8, rfl, bt', w', g', gr', fl, old, neu⟩
          have hj' : j < len := by omega
          have hm : (j + 1) % len < len := Nat.mod_lt _ (by omega)
          obtain ⟨k, k1, k2, k3⟩ := Shf.get hs (show t + j < pl.length by omega)
          have ea : atI ((vi pl).drop t |>.take len) ((j : Int) + 1 - 0) = atI ((vi pl).drop t |>.take len) ((j : Int) + 1) := by rw [Int.sub_zero]
          have em : ((j : Int) + 1) % (len : Int) = (((j + 1) % len : Nat) : Int) := by
            rw [Int.natCast_emod]
            rfl
          refine s_setL (j := k) g' (ev_op (ev_var rfl) (ev_op (ev_int1 (ev_op (ev_var rfl) ev_c rv_I0)) (ev_var rfl) (rv_I (show (0 : Int) < (len : Int) by omega))) (rv_ixL (sq_of gr') (by rw [em]; exact atI_nat (gr _ hm)))) (ev_var rfl) (ev_op (ev_var rfl) (ev_var rfl) (rv_ixL (sq_of gr') (by rw [← k2]; exact atI_nat (gr _ hj')))) (by rw [List.length_map]; omega) fun H5 e5 => ?_
          refine ⟨F'.set k (pl.getD (t + (j + 1) % len) 0), _, rfl, (bt'.trans (But.ex e5)).own fp, ?_, ?_, ?_, by rw [List.length_set]; exact fl, ?_, ?_⟩
          · obtain ⟨x, y, c, q1, q2⟩ := w'.ex e5
            exact ⟨x, y, c, by rw [upd_ne (Ne.symm np)]; exact q1, q2⟩
          · rw [upd_same, vi_set]
          · rw [upd_ne (Ne.symm npr)]
            exact e5 _ _ gr'
          · intro q hq
            obtain ⟨i', hi', rfl⟩ := List.getElem_of_mem hq
            rw [List.length_take] at hi'
            have hq' := Shf.mem hs (List.mem_of_mem_take hq)
            rw [look_set_ne hq'.1, old _ hq]
            intro z
            rw [List.getElem_take] at z
            have : i' = t + j := Shf.inj hs (by omega) (by omega) (by
              rw [k2, ← z, List.getD_eq_getElem?_getD, List.getElem?_eq_getElem (show i' < pl.length by omega)]
              rfl)
            omega
          · intro j' hj2
            by_cases e : j' = j
            · subst e
              rw [k2, look_set_same (by omega)]
            · obtain ⟨k', k1', k2', k3'⟩ := Shf.get hs (show t + j' < pl.length by omega)
              rw [look_set_ne (by rw [k2']; omega), neu j' (by omega)]
              intro z
              have : t + j' = t + j := Shf.inj hs (by omega) (by omega) (by rw [z, k2])
              omega
        · rintro σ'' H'' ⟨F', z8, rfl, bt', w', g', gr', fl, old, neu⟩
          refine s_asg (ev_is (ev_op (ev_var rfl) (ev_var rfl) rv_I0) (by rw [show (t : Int) + (len : Int) = ((t + len : Nat) : Int) by omega])) fun H6 e6 => ?_
          refine ⟨F', t + len, _, _, _, _, rfl, bt'.trans (But.ex e6), w'.ex e6, e6 _ _ g', by omega, ?_, ring_step inv (by omega) (by omega) fl old fun j' h => neu j' (by omega)⟩
          rcases hit with h | h
          · left
            omega
          · omega
      · refine s_when (b := false) (et_test (ev_op (ev_var rfl) (ev_len (ev_var rfl) hP') (rv_b (decide_eq_false (by omega))))) (fun h => nomatch h) (fun _ H2 e2 => ?_)
        exact ⟨F, t, _, _, _, _, rfl, bt.trans (But.ex e2), (w.ex e2).mono (by omega), e2 _ _ g, ht, .inr (by omega), inv⟩
    · rintro σ' H' ⟨F, t, y5, y6, y7, y8, rfl, bt, w, g, ht, hit, inv⟩
      have et : t = pl.length := by omega
      subst et
      refine s_retU (eu_tupOf (ev_var rfl) (sq_of g)) fun r H5 hr e5 h5 => ?_
      exact q r F H5 (but_free bt w hr) (bt.trans (But.ex e5)) ((w.ex e5).mono (by omega)) h5 (ring_end hs inv) inv.1
/-! ### _law_many -/
def sp_law_many (K : PySem.W.Frag) : Sp := fun vs H Q _ => ∃ (a : Addr) (ds : List Int) (t : Int), vs = [.ref a, .int t] ∧ SqT K H a (vi ds) ∧ Shf ds ∧ True ∧ RetU (vi (turnL ds t)) H Q
theorem u_law_many {K : PySem.W.Frag} {H : Hp} {a : Addr} {ds : List Int} {t : Int} (h : SqT K H a (vi ds)) (s : Shf ds) (h2 : True) : SpU (sp_law_many K) [.ref a, .int t] H (vi (turnL ds t)) :=
  fun H1 e Q q E => ⟨a, ds, t, rfl, ex_t e h, s, h2, q⟩
theorem ok_law_many (T : Txt K mg) : FnG P w K mg base CX0 2 T.a_law_many T.d_law_many ["deck", "turns"] (sp_law_many K) := by
  refine okG T.F_law_many sc_law_many (fun vs H Q E h => ?_) (fun cdv A out s H vs Q E hr h => ?_)
  · obtain ⟨a, ds, t, rfl, hA, hs, _, q⟩ := h
    rfl
  · obtain ⟨a, ds, t, rfl, hA, hs, _, q⟩ := h
    refine ⟨_, (pss_cons (ps_set (i := 2) sc_law_many.nd rfl (.inl rfl) (pe_op op_rep (pe_lst (pa_cons (pe_un un_neg pe_int) pa_nil)) (pe_callB (call_lenK (K := K) rfl) (by rfl) T.z_len bt_len (pa_cons (pv 0) pa_nil))))
    (pss_cons (ps_for PassesOwn.never rfl (pi_range1 (by rfl) T.z_range (pa_cons (pe_callB (call_lenK (K := K) rfl) (by rfl) T.z_len bt_len (pa_cons (pv 0) pa_nil)) pa_nil)) (pg_name (i := 3) sc_law_many.nd rfl (.inl rfl))
      (pss_one (ps_if (pt_cmpR op_lt (pe_ix (ix_listK (K := K) rfl) (pv 2) (pv 3) (fun _ _ => rfl)) pe_int (nomark _))
        (pss_cons (ps_set (i := 4) sc_law_many.nd rfl (.inl rfl) (callG (ok_law_ring_at T) (hr.mono (by decide)) (by rfl) T.g_law_ring_at T.F_law_ring_at.kp (b_law_ring_at T) .nil pass0 (pa_cons (pv 0) (pa_cons (pv 3) pa_nil))))
        (pss_one (ps_for PassesOwn.never rfl (pi_range1 (by rfl) T.z_range (pa_cons (pe_callB (call_lenK (K := K) rfl) (by rfl) T.z_len bt_len (pa_cons (pv 4) pa_nil)) pa_nil)) (pg_name (i := 5) sc_law_many.nd rfl (.inl rfl))
          (pss_one (ps_asg (pe_ix (ix_listK (K := K) rfl) (pv 4) (pe_op op_mod (pe_callTy call_int1 (by rfl) T.z_int bt_int (pa_cons (pe_op op_add (pv 5) (pv 1)) pa_nil)) (pe_callB (call_lenK (K := K) rfl) (by rfl) T.z_len bt_len (pa_cons (pv 4) pa_nil))) (fun _ _ => rfl)) (pg_sub (pv 2) (pe_ix (ix_listK (K := K) rfl) (pv 4) (pv 5) (fun _ _ => rfl)) set_list))))))
        pss_nil)))
    (pss_one (ps_ret (pe_callTy (call_tupleK (K := K) rfl) (by rfl) T.z_tuple bt_tuple (pa_cons (pv 2) pa_nil)))))), ?_⟩
    have h3 := hs.2.1
    have hl : ((vi ds).length : Int) = (ds.length : Int) := by rw [List.length_map]
    refine q_asgL (xs := vi (List.replicate ds.length (-1))) (el_is (el_rep (n := (ds.length : Int)) (el_lst (ea_cons (ev_neg ev_c) ea_nil) (by show 1 ≤ 100000; decide)) (fun H1 e2 => ev_is (ev_lenT (ev_var rfl) (ex_t e2 hA)) (by rw [hl])) (by omega) (by show 1 * _ ≤ _; omega) (by omega)) (by rw [Int.toNat_natCast]; exact flat_rep _ _)) fun pf H1 f1 e1 h1 => ?_
    refine q_forR1 (n := (ds.length : Int)) (ea_cons (ev_is (ev_lenT (ev_var rfl) (ex_t e1 hA)) (by rw [hl])) ea_nil) (by omega) (fun i σ' H' => ∃ (F : List Int) (y3 y4 y5 : Option V), σ' = [some (.ref a), some (.int t), some (.ref pf), y3, y4, y5] ∧ Ex H H' ∧ H' pf = some (.lst (vi F)) ∧ F.length = ds.length ∧ (∀ k, k < ds.length → F.getD k 0 = (tn ds t k : Int) ∨ F.getD k 0 = -1) ∧ ∀ k, k < i → F.getD k 0 = (tn ds t k : Int)) ?_ ?_ ?_
    · intro H3 e3
      refine ⟨List.replicate ds.length (-1), _, _, _, rfl, e1.trans e3, e3 _ _ h1, List.length_replicate, fun k hk => .inr ?_, fun k h => absurd h (Nat.not_lt_zero _)⟩
      rw [List.getD_eq_getElem?_getD, List.getElem?_replicate, if_pos hk]
      rfl
    · rintro i σ' H' hi ⟨F, y3, y4, y5, rfl, e, gf, fl, any, inv⟩
      have hi' : i < ds.length := by omega
      have fi : (vi F)[i]? = some (.int (F.getD i 0)) := by
        rw [vi_at (show i < F.length by omega), List.getD_eq_getElem?_getD, List.getElem?_eq_getElem (show i < F.length by omega)]
        rfl
      refine s_when (b := decide (F.getD i 0 < 0)) (et_test (ev_op (ev_op (ev_var rfl) (ev_var rfl) (rv_ixL (sq_of gf) (atI_nat fi))) ev_c (rv_b rfl))) (fun hb H2 e2 => ?_) (fun hb H2 e2 => ?_)
      · refine q_asgL (el_call (ea_cons (ev_var rfl) (ea_cons (ev_var rfl) ea_nil)) (l_law_ring_at (ex_t (e.trans e2) hA) hs hi')) fun pr H3 f3 e3 g3 => ?_
        have npr : pf ≠ pr := ne_of_none (e2 _ _ gf) f3
        obtain ⟨p1, p2⟩ := per_pos hs hi'
        have lr : (ringL ds i).length = per ds i := by unfold ringL; rw [List.length_map, List.length_range]
        have lr' : ((vi (up (ringL ds i))).length : Int) = (per ds i : Int) := by rw [List.length_map, up_length, lr]
        have rgD : ∀ j, j < per ds i → (ringL ds i).getD j 0 = orb ds i j := fun j hj => track_getD ds i hj
        have rat : ∀ j, j < per ds i → (vi (up (ringL ds i)))[j]? = some (.int (orb ds i j : Int)) := fun j hj => by
          rw [up_at (by rw [lr]; exact hj), rgD j hj]
        refine s_forR1 (n := (per ds i : Int)) (ea_cons (ev_is (ev_len (ev_var rfl) (sq_of g3)) (by rw [lr'])) ea_nil) (by omega) (fun j σ' H' => ∃ (F : List Int) (y5 : Option V), σ' = [some (.ref a), some (.int t), some (.ref pf), some (.int (i : Int)), some (.ref pr), y5] ∧ Ex H H' ∧ H' pf = some (.lst (vi F)) ∧ H' pr = some (.lst (vi (up (ringL ds i)))) ∧ F.length = ds.length ∧ (∀ k, k < ds.length → F.getD k 0 = (tn ds t k : Int) ∨ F.getD k 0 = -1) ∧ (∀ k, k < i → F.getD k 0 = (tn ds t k : Int)) ∧ (0 < j → F.getD i 0 = (tn ds t i : Int))) ?_ ?_ ?_
        · intro H4 e4
          exact ⟨F, _, rfl, ((e.trans e2).trans e3).trans e4, e4 _ _ (e3 _ _ (e2 _ _ gf)), e4 _ _ g3, fl, any, inv, fun h => absurd h (Nat.not_lt_zero _)⟩
        · rintro j σ'' H'' hj ⟨F, z5, rfl, e', gf', gr', fl', any', inv', one'⟩
          have hj' : j < per ds i := by omega
          have hk := orb_lt hs hi' j
          have m0 := Int.emod_nonneg ((j : Int) + t) (show (per ds i : Int) ≠ 0 by omega)
          have m1 : ((j : Int) + t) % (per ds i : Int) < per ds i := Int.emod_lt_of_pos _ (by omega)
          have want : orb ds i (((j : Int) + t) % (per ds i : Int)).toNat = tn ds t (orb ds i j) := by
            obtain ⟨r, j0, ir, hj0, hr0, hpr⟩ := per_ring hs hi'
            have ho : orb ds i j = r.getD ((j0 + j) % r.length) 0 := by rw [← hr0]; exact ir.orb hj0 j
            have hm : (j0 + j) % r.length < r.length := Nat.mod_lt _ ir.pos
            have e1 := tn_ring ir t hm
            rw [← ho] at e1
            rw [← e1, hpr]
            conv => lhs; rw [← hr0]
            rw [ir.orb hj0]
            congr 1
            rw [hpr] at m0 m1
            have m2 := Int.emod_nonneg ((((j0 + j) % r.length : Nat) : Int) + t) (show (r.length : Int) ≠ 0 by have := ir.pos; omega)
            have e3 : (((j0 + (((j : Int) + t) % (r.length : Int)).toNat) % r.length : Nat) : Int) = ((((j0 + j) % r.length : Nat) : Int) + t) % (r.length : Int) := by
              rw [Int.natCast_emod, Int.natCast_add, Int.toNat_of_nonneg m0, Int.add_emod_emod, Int.natCast_emod, Int.emod_add_emod, Int.natCast_add, Int.add_assoc]
            omega
          refine s_setL (j := orb ds i j) gf' (ev_op (ev_var rfl) (ev_op (ev_int1 (ev_op (ev_var rfl) (ev_var rfl) rv_I0)) (ev_is (ev_len (ev_var rfl) (sq_of gr')) (by rw [lr'])) (rv_I (show (0 : Int) < (per ds i : Int) by omega))) (rv_ixL (v := .int (tn ds t (orb ds i j) : Int)) (sq_of gr') (by
            rw [← want, show ((j : Int) + t) % (per ds i : Int) = (((((j : Int) + t) % (per ds i : Int)).toNat : Nat) : Int) by omega]
            exact atI_nat (rat _ (by omega))))) (ev_var rfl) (ev_op (ev_var rfl) (ev_var rfl) (rv_ixL (sq_of gr') (atI_nat (rat j hj')))) (by rw [List.length_map, fl']; exact hk) fun H4 e4 => ?_
          rw [vi_set]
          refine ⟨F.set (orb ds i j) (tn ds t (orb ds i j)), _, rfl, (e'.trans e4).mut f1, upd_same, ?_, by rw [List.length_set]; exact fl', ?_, ?_, ?_⟩
          · rw [upd_ne (Ne.symm npr)]
            exact e4 _ _ gr'
          · intro k hk'
            rw [set_getD (by rw [fl']; exact hk)]
            split
            · rename_i c
              rw [c]
              exact .inl rfl
            · exact any' k hk'
          · intro k hk'
            rw [set_getD (by rw [fl']; exact hk)]
            split
            · rename_i c
              rw [c]
            · exact inv' k hk'
          · intro _
            rw [set_getD (by rw [fl']; exact hk)]
            split
            · rename_i c
              rw [← c]
            · rename_i c
              refine one' ?_
              rcases Nat.eq_zero_or_pos j with z | z
              · rw [z] at c
                exact absurd rfl c
              · exact z
        · rintro σ'' H'' ⟨F, z5, rfl, e', gf', gr', fl', any', inv', one'⟩
          refine ⟨F, _, _, _, rfl, e', gf', fl', any', fun k hk => ?_⟩
          by_cases c : k = i
          · rw [c]
            exact one' (by omega)
          · exact inv' k (by omega)
      · refine ⟨F, _, _, _, rfl, e.trans e2, e2 _ _ gf, fl, any, fun k hk => ?_⟩
        by_cases c : k = i
        · rcases any i hi' with z | z
          · rw [c]
            exact z
          · rw [z] at hb
            exact absurd hb (by decide)
        · exact inv k (by omega)
    · rintro σ' H' ⟨F, y3, y4, y5, rfl, e, gf, fl, any, inv⟩
      have eF : F = turnL ds t := turn_end' fl fun i hi => inv i (by omega)
      subst eF
      exact s_retU (eu_tupOf (ev_var rfl) (sq_of gf)) fun r H5 hr e5 h5 => q r H5 (fresh_back e hr) (e.trans e5) h5
/-! ### turned -/
def sp_turned (K : PySem.W.Frag) : Sp := fun vs H Q _ => ∃ (a : Addr) (ds : List Int) (t : Int), vs = [.ref a, .int t] ∧ SqT K H a (vi ds) ∧ Shf ds ∧ RetU (vi (turnL ds t)) H Q
theorem u_turned {K : PySem.W.Frag} {H : Hp} {a : Addr} {ds : List Int} {t : Int} (h : SqT K H a (vi ds)) (s : Shf ds) : SpU (sp_turned K) [.ref a, .int t] H (vi (turnL ds t)) :=
  fun H1 e Q q E => ⟨a, ds, t, rfl, ex_t e h, s, q⟩
theorem ok_turned (T : Txt K mg) : FnG P w K mg base CX0 3 T.a_turned T.d_turned ["shuffle", "times"] (sp_turned K) := by
  refine okG T.F_turned sc_turned (fun vs H Q E h => ?_) (fun cdv A out s H vs Q E hr h => ?_)
  · obtain ⟨a, ds, t, rfl, hA, hs, q⟩ := h
    rfl
  · obtain ⟨a, ds, t, rfl, hA, hs, q⟩ := h
    refine ⟨_, (pss_cons (ps_expr (callG (ok_check_shuffle T) (hr.mono (by decide)) (by rfl) T.g_check_shuffle T.F_check_shuffle.kp (b_check_shuffle T) .nil pass0 (pa_cons (pv 0) pa_nil)))
    (pss_cons (ps_if (pt_not (pt_val (callG (ok_is_whole T) (hr.mono (by decide)) (by rfl) T.g_is_whole T.F_is_whole.kp (b_is_whole T) .nil pass0 (pa_cons (pv 1) pa_nil))))
      (pss_one ps_never)
      pss_nil)
    (pss_cons (ps_set (i := 2) sc_turned.nd rfl (.inl rfl) (pe_op op_rep (pe_lst (pa_cons pe_int pa_nil)) (pe_callB (call_lenK (K := K) rfl) (by rfl) T.z_len bt_len (pa_cons (pv 0) pa_nil))))
    (pss_cons (ps_for PassesOwn.never rfl (pi_listK (K := K) rfl (callG (ok_rings_in T) (hr.mono (by decide)) (by rfl) T.g_rings_in T.F_rings_in.kp (b_rings_in T) .nil pass0 (pa_cons (pv 0) pa_nil))) (pg_name (i := 3) sc_turned.nd rfl (.inl rfl))
      (pss_one (ps_for PassesOwn.never rfl (pi_enum (by rfl) T.z_enumerate (pa_cons (pv 3) pa_nil)) (pg_tup rfl (pgs_cons (pg_name (i := 4) sc_turned.nd rfl (.inl rfl)) (pgs_cons (pg_name (i := 5) sc_turned.nd rfl (.inl rfl)) pgs_nil)))
        (pss_one (ps_asg (pe_ix (ix_listK (K := K) rfl) (pv 3) (pe_op op_mod (pe_op op_add (pv 4) (pv 1)) (pe_callB (call_lenK (K := K) rfl) (by rfl) T.z_len bt_len (pa_cons (pv 3) pa_nil))) (fun _ _ => rfl)) (pg_sub (pv 2) (pv 5) set_list))))))
    (pss_one (ps_ret (pe_callTy (call_tupleK (K := K) rfl) (by rfl) T.z_tuple bt_tuple (pa_cons (pv 2) pa_nil)))))))), ?_⟩
    have h3 := hs.2.1
    have rg := rings_of hs
    have hl : ((vi ds).length : Int) = (ds.length : Int) := by rw [List.length_map]
    refine q_drop (ev_call (ea_cons (ev_var rfl) ea_nil) (v_check_shuffle hA hs)) fun H0 e0 => ?_
    refine q_when (b := false) (et_not (a := true) (et_test (ev_call (ea_cons (ev_var rfl) ea_nil) (v_is_whole t)))) (fun h => nomatch h) fun _ H1 e1 => ?_
    have hA1 := ex_t (e0.trans e1) hA
    refine q_asgL (xs := vi (List.replicate ds.length 0)) (el_is (el_rep (n := (ds.length : Int)) (el_lst (ea_cons ev_c ea_nil) (by show 1 ≤ 100000; decide)) (fun H1 e2 => ev_is (ev_lenT (ev_var rfl) (ex_t e2 hA1)) (by rw [hl])) (by omega) (by show 1 * _ ≤ _; omega) (by omega)) (by rw [Int.toNat_natCast]; exact flat_rep _ _)) fun pf H2 f2 e2 h2 => ?_
    have fp : H pf = none := fresh_back (e0.trans e1) f2
    refine q_forN (R := ringsL ds ds.length) (en_call (ea_cons (ev_var rfl) ea_nil) (n_rings_in (ex_t e2 hA1) hs)) (fun p qs i σ' H' => ∃ (F : List Int) (y3 y4 y5 : Option V), σ' = [some (.ref a), some (.int t), some (.ref pf), y3, y4, y5] ∧ Ex H H' ∧ H' p = some (.lst (qs.map .ref)) ∧ Nest H' qs (ringsL ds ds.length) ∧ H' pf = some (.lst (vi F)) ∧ F.length = ds.length ∧ p ≠ pf ∧ (∀ q ∈ qs, q ≠ pf) ∧ ∀ k ∈ ((ringsL ds ds.length).take i).flatten, F.getD k 0 = (tn ds t k : Int)) ?_ ?_ ?_ ?_
    · intro p qs H3 f3 e3 g3 nq fq
      refine ⟨List.replicate ds.length 0, _, _, _, rfl, ((e0.trans e1).trans e2).trans e3, g3, nq, e3 _ _ h2, List.length_replicate, ne_of_none' f3 h2, fun q hq => ne_of_none' (fq q hq) h2, fun k hk => ?_⟩
      exact nomatch hk
    · rintro p qs i σ' H' hi ⟨F, y3, y4, y5, rfl, e, gp, nq, gf, fl, np, nqf, inv⟩
      exact ⟨gp, nq⟩
    · rintro p qs i b r σ' H' hr hb hbq ⟨F, y3, y4, y5, rfl, e, gp, nq, gf, fl, np, nqf, inv⟩
      have ir := rg.ring r (List.mem_of_getElem? hr)
      have lr : ((vi (up r)).length : Int) = (r.length : Int) := by rw [List.length_map, up_length]
      have nb := nqf b hbq
      refine s_forEn (ev_var rfl) (sq_of hb) (fun j σ' H' => ∃ (F : List Int) (y4 y5 : Option V), σ' = [some (.ref a), some (.int t), some (.ref pf), some (.ref b), y4, y5] ∧ Ex H H' ∧ H' p = some (.lst (qs.map .ref)) ∧ Nest H' qs (ringsL ds ds.length) ∧ H' b = some (.lst (vi (up r))) ∧ H' pf = some (.lst (vi F)) ∧ F.length = ds.length ∧ (∀ k ∈ ((ringsL ds ds.length).take i).flatten, F.getD k 0 = (tn ds t k : Int)) ∧ ∀ j', j' < j → F.getD (r.getD j' 0) 0 = (tn ds t (r.getD j' 0) : Int)) ?_ ?_ ?_ ?_
      · intro H3 e3
        exact ⟨F, _, _, rfl, e.trans e3, e3 _ _ gp, nq.ex e3, e3 _ _ hb, e3 _ _ gf, fl, inv, fun j' h => absurd h (Nat.not_lt_zero _)⟩
      · rintro j σ'' H'' hj ⟨F, y4, y5, rfl, e', gp', nq', gb', gf', fl', inv', new'⟩
        exact sq_of gb'
      · rintro j x σ'' H'' hx ⟨F, y4, y5, rfl, e', gp', nq', gb', gf', fl', inv', new'⟩ H3 e3
        have hj : j < r.length := by
          have := (List.getElem?_eq_some_iff.mp hx).1
          rw [List.length_map, up_length] at this
          exact this
        rw [up_at hj] at hx
        cases hx
        have hk : r.getD j 0 < ds.length := ir.lt _ (by rw [getD_of hj]; exact List.getElem_mem hj)
        have hp := ir.pos
        have m0 := Int.emod_nonneg ((j : Int) + t) (show (r.length : Int) ≠ 0 by omega)
        have m1 : ((j : Int) + t) % (r.length : Int) < r.length := Int.emod_lt_of_pos _ (by omega)
        refine s_setL (j := r.getD j 0) (e3 _ _ gf') (ev_op (ev_var rfl) (ev_op (ev_op (ev_var rfl) (ev_var rfl) rv_I0) (ev_is (ev_len (ev_var rfl) (sq_of (e3 _ _ gb'))) (by rw [lr])) (rv_I (show (0 : Int) < (r.length : Int) by omega))) (rv_ixL (v := .int (tn ds t (r.getD j 0) : Int)) (sq_of (e3 _ _ gb')) (by
          rw [← tn_ring ir t hj, show ((j : Int) + t) % (r.length : Int) = (((((j : Int) + t) % (r.length : Int)).toNat : Nat) : Int) by omega]
          exact atI_nat (up_at (by omega))))) (ev_var rfl) (ev_var rfl) (by rw [List.length_map, fl']; exact hk) fun H4 e4 => ?_
        rw [vi_set]
        refine ⟨F.set (r.getD j 0) (tn ds t (r.getD j 0)), _, _, rfl, ((e'.trans e3).trans e4).mut fp, ?_, ?_, ?_, upd_same, by rw [List.length_set]; exact fl', ?_, ?_⟩
        · rw [upd_ne np]
          exact e4 _ _ (e3 _ _ gp')
        · exact ((nq'.ex e3).ex e4).upd nqf
        · rw [upd_ne nb]
          exact e4 _ _ (e3 _ _ gb')
        · intro k hk'
          rw [set_getD (by rw [fl']; exact hk)]
          split
          · rename_i c
            rw [c]
          · exact inv' k hk'
        · intro j' hj2
          rw [set_getD (by rw [fl']; exact hk)]
          split
          · rename_i c
            rw [c]
          · rename_i c
            refine new' j' ?_
            by_cases e5 : j' = j
            · rw [e5] at c
              exact absurd rfl c
            · omega
      · rintro σ'' H'' ⟨F, y4, y5, rfl, e', gp', nq', gb', gf', fl', inv', new'⟩
        refine ⟨F, _, _, _, rfl, e', gp', nq', gf', fl', np, nqf, fun k hk => ?_⟩
        rw [take_flat hr] at hk
        rcases List.mem_append.mp hk with hk | hk
        · exact inv' k hk
        · obtain ⟨j, hj, rfl⟩ := IsRing.mem (ds := ds) hk
          exact new' j (by rw [List.length_map, up_length]; exact hj)
    · rintro p qs σ' H' ⟨F, y3, y4, y5, rfl, e, gp, nq, gf, fl, np, nqf, inv⟩
      have eF : F = turnL ds t := turn_end' fl fun i hi => inv i (by rw [List.take_of_length_le (Nat.le_refl _)]; exact rg.all i hi)
      subst eF
      exact s_retU (eu_tupOf (ev_var rfl) (sq_of gf)) fun r H5 hr e5 h5 => q r H5 (fresh_back e hr) (e.trans e5) h5
/-! ### _law_deck -/
def sp_law_deck (K : PySem.W.Frag) : Sp := fun vs H Q _ => ∃ (a : Addr) (n : Nat) (most : Int), vs = [.ref a, .int most] ∧ Well H a n ∧ 1 ≤ most ∧ most ≤ 300 ∧ n + 700 ≤ 2 ^ 50 ∧ ∀ p ns H2, H p = none → But a H H2 → Well H2 a (n + 700) → H2 p = some (.tup (vi ns)) → Shf ns → (ns.length : Int) ≤ most → Q (.ref p) H2
theorem wu_law_deck {K : PySem.W.Frag} {E : XK} {σ : L2.St} {H : Hp} {a : Addr} {i d : Nat} {te : TE} {P : Int → Prop} (hσ : σ[i]? = some (some (.ref a))) (h : EvW a d te σ H (fun v => ∃ r, v = .int r ∧ P r)) (hP : ∀ r, P r → 1 ≤ r ∧ r ≤ 300) :
    EvWU a (d + 700) (tCall (sp_law_deck K) [] E (tCons (tVar i) (tCons te tNil))) σ H (fun xs => ∃ ns, xs = vi ns ∧ Shf ns ∧ ∃ r, P r ∧ (ns.length : Int) ≤ r) :=
  fun n H1 b w l Q q => ⟨.ref a, hσ, h n H1 b w (by omega) _ fun v H2 b2 w2 ⟨r, er, pr⟩ => by
    subst er
    obtain ⟨r0, r1⟩ := hP r pr
    exact ⟨a, n + d, r, rfl, w2, r0, r1, by omega, fun p ns H3 hp b3 w3 h3 sh hl => q p (vi ns) H3 (but_free b2 w2 hp) (b2.trans b3) w3 h3 ⟨ns, rfl, sh, r, pr, hl⟩⟩⟩
theorem ok_law_deck (T : Txt K mg) : FnG P w K mg base CX0 3 T.a_law_deck T.d_law_deck ["well", "most"] (sp_law_deck K) := by
  refine okG T.F_law_deck sc_law_deck (fun vs H Q E h => ?_) (fun cdv A out s H vs Q E hr h => ?_)
  · obtain ⟨a, n, most, rfl, hw, m0, m1, hn, q⟩ := h
    rfl
  · obtain ⟨a, n, most, rfl, hw, m0, m1, hn, q⟩ := h
    refine ⟨_, (pss_cons (ps_set (i := 2) sc_law_deck.nd rfl (.inl rfl) (pe_op op_add pe_int (callG (ok_law_draw T) (hr.mono (by decide)) (by rfl) T.g_law_draw T.F_law_draw.kp (b_law_draw T) .nil pass0 (pa_cons (pv 0) (pa_cons (pv 1) pa_nil)))))
    (pss_cons (ps_set (i := 3) sc_law_deck.nd rfl (.inl rfl) (callG (ok_law_mixed T) (hr.mono (by decide)) (by rfl) T.g_law_mixed T.F_law_mixed.kp (b_law_mixed T) .nil pass0 (pa_cons (pv 0) (pa_cons (pv 2) pa_nil))))
    (pss_cons (ps_if (pt_cmpR op_eq (callG (ok_law_draw T) (hr.mono (by decide)) (by rfl) T.g_law_draw T.F_law_draw.kp (b_law_draw T) .nil pass0 (pa_cons (pv 0) (pa_cons pe_int pa_nil))) pe_int (nomark _))
      (pss_one (ps_ret (pe_callTy (call_tupleK (K := K) rfl) (by rfl) T.z_tuple bt_tuple (pa_cons (pv 3) pa_nil))))
      pss_nil)
    (pss_one (ps_ret (callG (ok_law_ringed T) (hr.mono (by decide)) (by rfl) T.g_law_ringed T.F_law_ringed.kp (b_law_ringed T) .nil pass0 (pa_cons (pv 0) (pa_cons (pv 3) (pa_cons (pe_op op_add pe_int (callG (ok_law_draw T) (hr.mono (by decide)) (by rfl) T.g_law_draw T.F_law_draw.kp (b_law_draw T) .nil pass0 (pa_cons (pv 0) (pa_cons (pv 2) pa_nil)))) pa_nil))))))))), ?_⟩
    refine qw_asg (ew_add (P := fun r => 1 ≤ r ∧ r ≤ most) (ew_c (P := fun r => r = 1) rfl) (ew_drawC (m := most) rfl (ev_var rfl) (by omega) (lt8000 (by omega))) (fun x y hx hy => by omega)) hw (by omega) ?_
    rintro v H1 b1 w1 ⟨r, rfl, r0, r1⟩
    obtain ⟨m, rfl⟩ : ∃ k : Nat, r = k := ⟨r.toNat, by omega⟩
    refine qw_asgL (wl_law_mixed (m := m) rfl (ev_var rfl) (by omega)) w1 (by omega) ?_
    rintro p _ H2 f2 b2 w2 h2 ⟨pl, rfl, pm⟩
    have np : p ≠ a := w1.ne f2
    have hlen : pl.length = m := by rw [pm.length_eq, iota_length]
    have sh : Shf pl := ⟨by omega, by omega, by rw [hlen]; exact pm⟩
    have fp : H p = none := but_free b1 w1 f2
    refine qw_if (ew_eq (P2 := fun r => r = 0) (ew_drawC (m := 3) rfl ev_c (by decide) (lt8000 (by decide))) (ew_c rfl)) w2 (by omega) ?_ ?_
    · intro H3 b3 w3
      have h3 := b3 _ _ np h2
      refine s_retU (eu_tupOf (ev_var rfl) (sq_of h3)) fun r H4 hr e4 h4 => ?_
      exact q r pl H4 (but_free ((b1.trans b2).trans b3) w3 hr) (((b1.trans b2).trans b3).trans (But.ex e4)) ((w3.ex e4).mono (by omega)) h4 sh (by omega)
    · intro H3 b3 w3
      have h3 := b3 _ _ np h2
      refine ⟨.ref a, rfl, .ref p, rfl, ?_⟩
      refine (ew_add (P := fun r => 1 ≤ r ∧ r ≤ (m : Int)) (ew_c (P := fun r => r = 1) rfl) (ew_drawC (m := (m : Int)) rfl (ev_var rfl) (by omega) (lt8000 (by omega))) (fun x y hx hy => by omega)) _ H3 (But.refl a H3) w3 (by omega) _ ?_
      rintro v H4 b4 w4 ⟨r, rfl, r0, r1⟩
      refine ⟨a, p, _, r, pl, rfl, w4, np, sq_of (b4 _ _ np h3), sh, r0, by omega, by omega, fun r' ns H5 hr b5 w5 h5 ok el => ?_⟩
      have bb := (((b1.trans b2).trans b3).trans b4)
      exact q r' ns H5 (but_free bb w4 hr) (bb.trans b5) (w5.mono (by omega)) h5 ok (by omega)
/-! ### _law_great_deck -/
def sp_law_great_deck (K : PySem.W.Frag) : Sp := fun vs H Q _ => ∃ (a : Addr) (n : Nat), vs = [.ref a] ∧ Well H a n ∧ n + 400 ≤ 2 ^ 50 ∧ ∀ p ns H2, H p = none → But a H H2 → Well H2 a (n + 400) → H2 p = some (.tup (vi ns)) → Shf ns → 41 ≤ ns.length → Q (.ref p) H2
theorem wu_law_great_deck {K : PySem.W.Frag} {E : XK} {σ : L2.St} {H : Hp} {a : Addr} {i : Nat} (hσ : σ[i]? = some (some (.ref a))) :
    EvWU a 400 (tCall (sp_law_great_deck K) [] E (tCons (tVar i) tNil)) σ H (fun xs => ∃ ns, xs = vi ns ∧ Shf ns ∧ 41 ≤ ns.length) :=
  fun n H1 b w l Q q => ⟨.ref a, hσ, a, n, rfl, w, l, fun p ns H3 hp b3 w3 h3 sh hl => q p (vi ns) H3 hp b3 w3 h3 ⟨ns, rfl, sh, hl⟩⟩
theorem ok_law_great_deck (T : Txt K mg) : FnG P w K mg base CX0 3 T.a_law_great_deck T.d_law_great_deck ["well"] (sp_law_great_deck K) := by
  refine okG T.F_law_great_deck sc_law_great_deck (fun vs H Q E h => ?_) (fun cdv A out s H vs Q E hr h => ?_)
  · obtain ⟨a, n, rfl, hw, hn, q⟩ := h
    rfl
  · obtain ⟨a, n, rfl, hw, hn, q⟩ := h
    refine ⟨_, (pss_cons (ps_set (i := 1) sc_law_great_deck.nd rfl (.inr rfl) (pe_ix (ix_listK (K := K) rfl) (pe_lst (pa_cons pe_int (pa_cons pe_int (pa_cons pe_int (pa_cons (pe_op op_add pe_int (callG (ok_law_draw T) (hr.mono (by decide)) (by rfl) T.g_law_draw T.F_law_draw.kp (b_law_draw T) .nil pass0 (pa_cons (pv 0) (pa_cons pe_int pa_nil)))) pa_nil))))) (callG (ok_law_draw T) (hr.mono (by decide)) (by rfl) T.g_law_draw T.F_law_draw.kp (b_law_draw T) .nil pass0 (pa_cons (pv 0) (pa_cons pe_int pa_nil))) (fun _ _ => rfl)))
    (pss_cons (ps_set (i := 2) sc_law_great_deck.nd rfl (.inr rfl) (pe_ifExp (pt_cmpR op_eq (pv 1) pe_int (nomark _)) (pe_op op_add pe_int (callG (ok_law_draw T) (hr.mono (by decide)) (by rfl) T.g_law_draw T.F_law_draw.kp (b_law_draw T) .nil pass0 (pa_cons (pv 0) (pa_cons pe_int pa_nil)))) (pe_ix (ix_listK (K := K) rfl) (pe_lst (pa_cons pe_int (pa_cons (pe_op op_sub (pv 1) pe_int) pa_nil))) (callG (ok_law_draw T) (hr.mono (by decide)) (by rfl) T.g_law_draw T.F_law_draw.kp (b_law_draw T) .nil pass0 (pa_cons (pv 0) (pa_cons pe_int pa_nil))) (fun _ _ => rfl))))
    (pss_cons (ps_setLc (i := 3) (own := [("k", 9)]) (g := gName 9) rfl sc_law_great_deck.nd rfl rfl (sw_true rfl rfl rfl (by decide +kernel)) (pi_range1 (by rfl) T.z_range (pa_cons (pv 1) pa_nil)) (blkOk_by (own := [("k", 9)]) (N := ["well", "size", "step", "places", "length", "found", "start", "ring", "j", "k"]) (sc := defScope s_law_great_deck) (by decide +kernel)) (fun _ _ _ _ _ => (pg_name (i := 9) sc_law_great_deck.nd rfl (Or.inl rfl))) (fun _ _ _ _ _ => pts_nil) (fun _ _ _ _ _ => (pe_op op_mod (pe_callTy call_int1 (by rfl) T.z_int bt_int (pa_cons (pe_op op_mul (pv 9) (pv 2)) pa_nil)) (pv 1))))
    (pss_cons (ps_set (i := 4) sc_law_great_deck.nd rfl (.inl rfl) (pe_op op_add pe_int (callG (ok_law_draw T) (hr.mono (by decide)) (by rfl) T.g_law_draw T.F_law_draw.kp (b_law_draw T) .nil pass0 (pa_cons (pv 0) (pa_cons (pe_ix (ix_listK (K := K) rfl) (pe_lst (pa_cons pe_int (pa_cons pe_int (pa_cons (pv 1) pa_nil)))) (callG (ok_law_draw T) (hr.mono (by decide)) (by rfl) T.g_law_draw T.F_law_draw.kp (b_law_draw T) .nil pass0 (pa_cons (pv 0) (pa_cons pe_int pa_nil))) (fun _ _ => rfl)) pa_nil)))))
    (pss_cons (ps_if (pt_cmpR op_eq (callG (ok_law_draw T) (hr.mono (by decide)) (by rfl) T.g_law_draw T.F_law_draw.kp (b_law_draw T) .nil pass0 (pa_cons (pv 0) (pa_cons pe_int pa_nil))) pe_int (nomark _))
      (pss_one (ps_ret (callG (ok_law_ringed T) (hr.mono (by decide)) (by rfl) T.g_law_ringed T.F_law_ringed.kp (b_law_ringed T) .nil pass0 (pa_cons (pv 0) (pa_cons (pv 3) (pa_cons (pv 4) pa_nil))))))
      pss_nil)
    (pss_cons (ps_set (i := 5) sc_law_great_deck.nd rfl (.inl rfl) (pe_listRg rfl (by rfl) T.z_list (prg_1 (by rfl) T.z_range (pv 1))))
    (pss_cons (ps_for PassesOwn.never rfl (pi_range3 (by rfl) T.z_range (pa_cons pe_int (pa_cons (pe_op op_add (pe_op op_sub (pv 1) (pv 4)) pe_int) (pa_cons (pv 4) pa_nil)))) (pg_name (i := 6) sc_law_great_deck.nd rfl (.inl rfl))
      (pss_cons (ps_set (i := 7) sc_law_great_deck.nd rfl (.inl rfl) (pe_slice (sl_listK (K := K) rfl) (pv 3) (po_some (pv 6)) (po_some (pe_op op_add (pv 6) (pv 4)))))
      (pss_one (ps_for PassesOwn.never rfl (pi_range1 (by rfl) T.z_range (pa_cons (pv 4) pa_nil)) (pg_name (i := 8) sc_law_great_deck.nd rfl (.inl rfl))
        (pss_one (ps_asg (pe_ix (ix_listK (K := K) rfl) (pv 7) (pe_op op_mod (pe_callTy call_int1 (by rfl) T.z_int bt_int (pa_cons (pe_op op_add (pv 8) pe_int) pa_nil)) (pv 4)) (fun _ _ => rfl)) (pg_sub (pv 5) (pe_ix (ix_listK (K := K) rfl) (pv 7) (pv 8) (fun _ _ => rfl)) set_list)))))))
    (pss_one (ps_ret (pe_callTy (call_tupleK (K := K) rfl) (by rfl) T.z_tuple bt_tuple (pa_cons (pv 5) pa_nil))))))))))), ?_⟩
    refine qw_asg (P := fun v => ∃ s : Nat, v = .int (s : Int) ∧ 41 ≤ s ∧ s ≤ 300) (ew_ixW (ewl_lst (ewa_cons (ew_c (P := fun r => r = 293) rfl) (ewa_cons (ew_c (P := fun r => r = 299) rfl) (ewa_cons (ew_c (P := fun r => r = 300) rfl) (ewa_cons (ew_add (P := fun r => 41 ≤ r ∧ r ≤ 292) (ew_c (P := fun r => r = 41) rfl) (ew_drawC (m := 252) rfl ev_c (by decide) (lt8000 (by decide))) (fun x y hx hy => by omega)) ewa_nil)))) ?_) (ew_drawC (m := 4) rfl ev_c (by decide) (lt8000 (by decide))) ?_) hw (by omega) ?_
    · rintro xs ⟨_, _, rfl, _, _, _, rfl, _, _, _, rfl, _, _, _, rfl, _, rfl⟩
      show 4 ≤ 100000
      decide
    · rintro xs v ⟨_, _, rfl, ⟨_, rfl, rfl⟩, _, _, rfl, ⟨_, rfl, rfl⟩, _, _, rfl, ⟨_, rfl, rfl⟩, _, _, rfl, ⟨s, rfl, s0, s1⟩, rfl⟩ ⟨r, rfl, r0, r1⟩
      obtain ⟨j, rfl⟩ : ∃ j : Nat, r = j := ⟨r.toNat, by omega⟩
      obtain ⟨s, rfl⟩ : ∃ j : Nat, s = j := ⟨s.toNat, by omega⟩
      match j, r1 with
      | 0, _ => exact ⟨_, _, rfl, rfl, 293, rfl, by decide, by decide⟩
      | 1, _ => exact ⟨_, _, rfl, rfl, 299, rfl, by decide, by decide⟩
      | 2, _ => exact ⟨_, _, rfl, rfl, 300, rfl, by decide, by decide⟩
      | 3, _ => exact ⟨_, _, rfl, rfl, s, rfl, by omega, by omega⟩
      | j + 4, r1 => omega
    rintro v H1 b1 w1 ⟨size, rfl, s0, s1⟩
    refine qw_asg (P := fun v => ∃ s : Nat, v = .int (s : Int) ∧ s ≤ 300 ∧ Nat.Coprime size s) (ew_if (b := decide (V.int (size : Int) = V.int 293)) (et_test (ev_op (ev_var rfl) ev_c (rv_eq rfl))) (fun hb => ew_weak (d1 := 2) (EvW.mono (ew_add (P := fun r => 1 ≤ r ∧ r ≤ 292) (ew_c (P := fun r => r = 1) rfl) (ew_drawC (m := 292) rfl ev_c (by decide) (lt8000 (by decide))) (fun x y hx hy => by omega)) ?_) (by decide)) (fun hb => ew_weak (ew_ix (xs := [.int 1, .int ((size : Int) - 1)]) (el_lst (ea_cons ev_c (ea_cons (ev_op (ev_var rfl) ev_c rv_I0) ea_nil)) (by show 2 ≤ 100000; decide)) (ew_drawC (m := 2) rfl ev_c (by decide) (lt8000 (by decide))) ?_) (by decide))) w1 (by omega) ?_
    · rintro v ⟨r, rfl, r0, r1⟩
      have es : (size : Int) = 293 := V.int.inj (of_decide_eq_true hb)
      obtain rfl : size = 293 := by omega
      obtain ⟨j, rfl⟩ : ∃ j : Nat, r = j := ⟨r.toNat, by omega⟩
      exact ⟨j, rfl, by omega, cop293 j (by omega) (by omega)⟩
    · rintro v ⟨r, rfl, r0, r1⟩
      obtain ⟨j, rfl⟩ : ∃ j : Nat, r = j := ⟨r.toNat, by omega⟩
      match j, r1 with
      | 0, _ => exact ⟨_, _, rfl, rfl, 1, rfl, by decide, cop_one _⟩
      | 1, _ => exact ⟨_, _, rfl, rfl, size - 1, by rw [show ((size - 1 : Nat) : Int) = (size : Int) - 1 by omega], by omega, cop_pred (by omega)⟩
      | j + 2, r1 => omega
    rintro v H2 b2 w2 ⟨step, rfl, t1, hc⟩
    have sh := steps_shf (step := step) (show 0 < size by omega) s1 hc
    refine q_asgL (xs := vi (stepsL size step)) (el_is (el_lcR1 (n := (size : Int)) (fun _ => true) (fun k => V.int (((k * step % size : Nat) : Int))) (ea_cons (ev_var rfl) ea_nil) (by omega) (fun _ => rfl) (fun _ _ _ _ => et_yes) ?_) ?_) fun pp H3 fp e3 h3 => ?_
    · intro k H4 e4 hk _
      refine ev_is (ev_op (ev_int1 (ev_op (ev_var rfl) (ev_var rfl) (rv_I (cml (by omega))))) (ev_var rfl) (rv_I (show (0 : Int) < (size : Int) by omega))) ?_
      rw [Int.natCast_emod, Int.natCast_mul]
    · rw [Int.toNat_natCast, given_ints]
      rfl
    have w3 := w2.ex e3
    have np : pp ≠ a := w2.ne fp
    generalize hpl : stepsL size step = pl at h3 sh
    have hlen : pl.length = size := by rw [← hpl, stepsL_length]
    have bt3 := (b1.trans b2).trans (But.ex e3)
    have hl : ((vi pl).length : Int) = (pl.length : Int) := by rw [List.length_map]
    refine qw_asg (P := fun v => ∃ s : Nat, v = .int (s : Int) ∧ 1 ≤ s ∧ s ≤ size) (EvW.mono (ew_add (P := fun r => 1 ≤ r ∧ r ≤ (size : Int)) (ew_c (P := fun r => r = 1) rfl) ((ew_draw rfl (ew_ix (P1 := fun v => ∃ r : Int, v = .int r ∧ 1 ≤ r ∧ r ≤ (size : Int)) (xs := [.int 4, .int 20, .int (size : Int)]) (el_lst (ea_cons ev_c (ea_cons ev_c (ea_cons (ev_var rfl) ea_nil))) (by show 3 ≤ 100000; decide)) (ew_drawC (m := 3) rfl ev_c (by decide) (lt8000 (by decide))) ?_) ?_).mono ?_) (P2 := fun r => 0 ≤ r ∧ r < (size : Int)) (fun x y hx hy => by omega)) ?_) w3 (by omega) ?_
    · rintro v ⟨r, rfl, r0, r1⟩
      obtain ⟨j, rfl⟩ : ∃ j : Nat, r = j := ⟨r.toNat, by omega⟩
      match j, r1 with
      | 0, _ => exact ⟨_, _, rfl, rfl, 4, rfl, by decide, by omega⟩
      | 1, _ => exact ⟨_, _, rfl, rfl, 20, rfl, by decide, by omega⟩
      | 2, _ => exact ⟨_, _, rfl, rfl, size, rfl, by omega, by omega⟩
      | j + 3, r1 => omega
    · rintro v ⟨r, rfl, r0, r1⟩
      exact ⟨r, rfl, by omega, lt8000 (by omega)⟩
    · rintro v ⟨m, r, ⟨_, e, m0, m1⟩, rfl, r0, r1⟩
      cases e
      exact ⟨r, rfl, r0, by omega⟩
    · rintro v ⟨r, rfl, r0, r1⟩
      obtain ⟨j, rfl⟩ : ∃ j : Nat, r = j := ⟨r.toNat, by omega⟩
      exact ⟨j, rfl, by omega, by omega⟩
    rintro v H4 b4 w4 ⟨len, rfl, l0, l1⟩
    have h4 := b4 _ _ np h3
    have fpp : H pp = none := but_free (b1.trans b2) w2 fp
    refine qw_if (ew_eq (P2 := fun r => r = 0) (ew_drawC (m := 2) rfl ev_c (by decide) (lt8000 (by decide))) (ew_c rfl)) w4 (by omega) ?_ ?_
    · intro H5 b5 w5
      have h5 := b5 _ _ np h4
      refine ⟨.ref a, rfl, .ref pp, rfl, .int (len : Int), rfl, a, pp, _, (len : Int), pl, rfl, w5, np, sq_of h5, sh, by omega, by omega, by omega, fun r ns H6 hr b6 w6 h6 ok el => ?_⟩
      exact q r ns H6 (but_free ((bt3.trans b4).trans b5) w5 hr) (((bt3.trans b4).trans b5).trans b6) (w6.mono (by omega)) h6 ok (by omega)
    · intro H5 b5 w5
      have h5 := b5 _ _ np h4
      have bt5 := (bt3.trans b4).trans b5
      refine q_asgL (el_is (el_rg1 (ev_var rfl) (by omega) (by omega)) (rgV_iota size)) fun p H6 fr e6 h6 => ?_
      have fp : H p = none := but_free bt5 w5 fr
      have nq : p ≠ a := w5.ne fr
      have npp : p ≠ pp := fun z => by
        rw [z, h5] at fr
        cases fr
      refine q_forR3 (j := (size : Int) - (len : Int) + 1) (c := (len : Int)) (ea_cons ev_c (ea_cons (ev_op (ev_op (ev_var rfl) (ev_var rfl) rv_I0) ev_c rv_I0) (ea_cons (ev_var rfl) ea_nil))) (by omega) (by omega) (by omega) (by omega)
        (fun i σ' H' => ∃ (F : List Int) (y6 y7 y8 y9 : Option V), σ' = [some (.ref a), some (.int (size : Int)), some (.int (step : Int)), some (.ref pp), some (.int (len : Int)), some (.ref p), y6, y7, y8, y9] ∧ But a H H' ∧ Well H' a (n + 40) ∧ H' pp = some (.lst (vi pl)) ∧ H' p = some (.lst (vi F)) ∧ RingInv pl F (i * len) ∧ i * len ≤ pl.length ∧ ∀ q ∈ pl.drop (i * len), look F q = q) ?_ ?_ ?_
      · intro H7 e7
        refine ⟨iota size, _, _, _, _, rfl, bt5.trans (But.ex (e6.trans e7)), (w5.ex (e6.trans e7)).mono (by omega), e7 _ _ (e6 _ _ h5), e7 _ _ h6, ⟨by rw [iota_length, hlen], ?_⟩, ?_, ?_⟩
        · rw [Nat.zero_mul]
          exact List.Perm.refl _
        · rw [Nat.zero_mul]
          exact Nat.zero_le _
        · intro q hq
          have := Shf.mem sh (List.mem_of_mem_drop hq)
          exact iota_look this.1 (by omega)
      · rintro i σ' H' hi ⟨F, y6, y7, y8, y9, rfl, bt, w, gp, g, inv, hle, idn⟩
        have hi' : i * len + len ≤ pl.length := by
          rw [← Int.natCast_mul] at hi
          omega
        have ei : (i : Int) * (len : Int) = ((i * len : Nat) : Int) := by rw [Int.natCast_mul]
        rw [ei]
        have es : (i + 1) * len = i * len + len := Nat.succ_mul i len
        rw [es]
        generalize ht : i * len = t at *
        refine q_asgL (el_sl (ev_var rfl) (eo_some (ev_var rfl)) (eo_some (ev_op (ev_var rfl) (ev_var rfl) rv_I0)) (sq_of gp)) fun pr H4 fr e4 h4 => ?_
        rw [cut_mid (by rw [List.length_map]; omega)] at h4
        have gr : ∀ j, j < len → ((vi pl).drop t |>.take len)[j]? = some (.int (pl.getD (t + j) 0)) := fun j hj => by
          rw [List.getElem?_take_of_lt hj, List.getElem?_drop, vi_at (show t + j < pl.length by omega), List.getD_eq_getElem?_getD, List.getElem?_eq_getElem (show t + j < pl.length by omega)]
          rfl
        have nr : pr ≠ a := w.ne fr
        have npr : p ≠ pr := ne_of_none g fr
        refine s_forR1 (n := (len : Int)) (ea_cons (ev_var rfl) ea_nil) (by omega) (fun j σ' H' => ∃ (F' : List Int) (y8 : Option V), σ' = [some (.ref a), some (.int (size : Int)), some (.int (step : Int)), some (.ref pp), some (.int (len : Int)), some (.ref p), some (.int (t : Int)), some (.ref pr), y8, y9] ∧ But a H H' ∧ Well H' a (n + 40) ∧ H' pp = some (.lst (vi pl)) ∧ H' p = some (.lst (vi F')) ∧ H' pr = some (.lst ((vi pl).drop t |>.take len)) ∧ F'.length = pl.length ∧
          (∀ q ∈ pl.take t, look F' q = look F q) ∧ (∀ q ∈ pl.drop (t + len), look F' q = q) ∧ ∀ j', j' < j → look F' (pl.getD (t + j') 0) = pl.getD (t + (j' + 1) % len) 0) ?_ ?_ ?_
        · intro H5 e5
          refine ⟨F, _, rfl, bt.trans (But.ex (e4.trans e5)), w.ex (e4.trans e5), e5 _ _ (e4 _ _ gp), e5 _ _ (e4 _ _ g), e5 _ _ h4, inv.1, fun _ _ => rfl, fun q hq => ?_, fun j' h => absurd h (Nat.not_lt_zero _)⟩
          rw [← List.drop_drop] at hq
          exact idn q (List.mem_of_mem_drop hq)
        · rintro j σ'' H'' hj ⟨F', z8, rfl, bt', w', gp', g', gr', fl, old, low, neu⟩
          have hj' : j < len := by omega
          have hm : (j + 1) % len < len := Nat.mod_lt _ (by omega)
          obtain ⟨k, k1, k2, k3⟩ := Shf.get sh (show t + j < pl.length by omega)
          have em : ((j : Int) + 1) % (len : Int) = (((j + 1) % len : Nat) : Int) := by
            rw [Int.natCast_emod]
            rfl
          refine s_setL (j := k) g' (ev_op (ev_var rfl) (ev_op (ev_int1 (ev_op (ev_var rfl) ev_c rv_I0)) (ev_var rfl) (rv_I (show (0 : Int) < (len : Int) by omega))) (rv_ixL (sq_of gr') (by rw [em]; exact atI_nat (gr _ hm)))) (ev_var rfl) (ev_op (ev_var rfl) (ev_var rfl) (rv_ixL (sq_of gr') (by rw [← k2]; exact atI_nat (gr _ hj')))) (by rw [List.length_map]; omega) fun H5 e5 => ?_
          refine ⟨F'.set k (pl.getD (t + (j + 1) % len) 0), _, rfl, (bt'.trans (But.ex e5)).own fp, ?_, ?_, ?_, ?_, by rw [List.length_set]; exact fl, ?_, ?_, ?_⟩
          · obtain ⟨x, y, c, q1, q2⟩ := w'.ex e5
            exact ⟨x, y, c, by rw [upd_ne (Ne.symm nq)]; exact q1, q2⟩
          · rw [upd_ne (Ne.symm npp)]
            exact e5 _ _ gp'
          · rw [upd_same, vi_set]
          · rw [upd_ne (Ne.symm npr)]
            exact e5 _ _ gr'
          · intro q hq
            obtain ⟨i', hi', rfl⟩ := List.getElem_of_mem hq
            rw [List.length_take] at hi'
            have hq' := Shf.mem sh (List.mem_of_mem_take hq)
            rw [look_set_ne hq'.1, old _ hq]
            intro z
            rw [List.getElem_take] at z
            have : i' = t + j := Shf.inj sh (by omega) (by omega) (by
              rw [k2, ← z, List.getD_eq_getElem?_getD, List.getElem?_eq_getElem (show i' < pl.length by omega)]
              rfl)
            omega
          · intro q hq
            obtain ⟨i', hi', rfl⟩ := List.getElem_of_mem hq
            rw [List.length_drop] at hi'
            have hq' := Shf.mem sh (List.mem_of_mem_drop hq)
            rw [look_set_ne hq'.1, low _ hq]
            intro z
            rw [List.getElem_drop] at z
            have : t + len + i' = t + j := Shf.inj sh (by omega) (by omega) (by
              rw [k2, ← z, List.getD_eq_getElem?_getD, List.getElem?_eq_getElem (show t + len + i' < pl.length by omega)]
              rfl)
            omega
          · intro j' hj2
            by_cases e : j' = j
            · subst e
              rw [k2, look_set_same (by omega)]
            · obtain ⟨k', k1', k2', k3'⟩ := Shf.get sh (show t + j' < pl.length by omega)
              rw [look_set_ne (by rw [k2']; omega), neu j' (by omega)]
              intro z
              have : t + j' = t + j := Shf.inj sh (by omega) (by omega) (by rw [z, k2])
              omega
        · rintro σ'' H'' ⟨F', z8, rfl, bt', w', gp', g', gr', fl, old, low, neu⟩
          exact ⟨F', _, _, _, _, rfl, bt', w', gp', g', ring_step inv (by omega) (by omega) fl old fun j' h => neu j' (by omega), by omega, low⟩
      · rintro i σ' H' ⟨F, y6, y7, y8, y9, rfl, bt, w, gp, g, inv, hle, idn⟩
        refine s_retU (eu_tupOf (ev_var rfl) (sq_of g)) fun r H7 hr e7 h7 => ?_
        exact q r F H7 (but_free bt w hr) (bt.trans (But.ex e7)) ((w.ex e7).mono (by omega)) h7 (ring_rest sh inv idn) (by rw [inv.1]; omega)
/-! ### _law_deck_right -/
def sp_law_deck_right (K : PySem.W.Frag) : Sp := fun vs H Q _ => ∃ (a b : Addr) (n : Nat) (ds : List Int), vs = [.ref a, .ref b] ∧ Well H a n ∧ b ≠ a ∧ SqT K H b (vi ds) ∧ Shf ds ∧ n + 10 ≤ 2 ^ 50 ∧ ∀ H2, But a H H2 → Well H2 a (n + 10) → Q (.bl true) H2
theorem turn_zero {ds : List Int} (hs : Shf ds) : turnL ds 0 = iota ds.length := by
  unfold turnL iota
  refine List.map_congr_left fun i hi => ?_
  have := tn_nat hs 0 (List.mem_range.mp hi)
  rw [show ((0 : Nat) : Int) = 0 from rfl] at this
  rw [this]
  rfl
theorem turn_one {ds : List Int} (hs : Shf ds) : turnL ds 1 = ds := by
  refine (turn_end' rfl fun i hi => ?_).symm
  have := tn_nat hs 1 hi
  rw [show ((1 : Nat) : Int) = 1 from rfl] at this
  rw [this, nx_get hs hi]
  rfl
theorem ok_law_deck_right (T : Txt K mg) : FnG P w K mg base CX0 4 T.a_law_deck_right T.d_law_deck_right ["well", "deck"] (sp_law_deck_right K) := by
  refine okG T.F_law_deck_right sc_law_deck_right (fun vs H Q E h => ?_) (fun cdv A out s H vs Q E hr h => ?_)
  · obtain ⟨a, b, n, ds, rfl, hw, nb, hB, hs, hn, q⟩ := h
    rfl
  · obtain ⟨a, b, n, ds, rfl, hw, nb, hB, hs, hn, q⟩ := h
    refine ⟨_, (pss_cons (ps_set (i := 2) sc_law_deck_right.nd rfl (.inl rfl) (pe_op op_sub (callG (ok_law_draw T) (hr.mono (by decide)) (by rfl) T.g_law_draw T.F_law_draw.kp (b_law_draw T) .nil pass0 (pa_cons (pv 0) (pa_cons pe_int pa_nil))) pe_int))
    (pss_cons (ps_if (pt_cmpR op_ne (pe_callB (call_reprK (K := K) rfl hr.gd hr.rm.units) (by rfl) T.z_repr bt_repr (pa_cons (callG (ok_turned T) (hr.mono (by decide)) (by rfl) T.g_turned T.F_turned.kp (b_turned T) .nil pass0 (pa_cons (pv 1) (pa_cons (pv 2) pa_nil))) pa_nil)) (pe_callB (call_reprK (K := K) rfl hr.gd hr.rm.units) (by rfl) T.z_repr bt_repr (pa_cons (callG (ok_law_few T) (hr.mono (by decide)) (by rfl) T.g_law_few T.F_law_few.kp (b_law_few T) .nil pass0 (pa_cons (pv 1) (pa_cons (pv 2) pa_nil))) pa_nil)) (nomark _))
      (pss_one (ps_ret pe_bl))
      pss_nil)
    (pss_cons (ps_set (i := 3) sc_law_deck_right.nd rfl (.inl rfl) (callG (ok_law_draw T) (hr.mono (by decide)) (by rfl) T.g_law_draw T.F_law_draw.kp (b_law_draw T) .nil pass0 (pa_cons (pv 0) (pa_cons (pe_ix (ix_listK (K := K) rfl) (pe_lst (pa_cons pe_int (pa_cons (pe_op op_powW pe_int pe_int) (pa_cons (pe_op op_powW pe_int pe_int) pa_nil)))) (callG (ok_law_draw T) (hr.mono (by decide)) (by rfl) T.g_law_draw T.F_law_draw.kp (b_law_draw T) .nil pass0 (pa_cons (pv 0) (pa_cons pe_int pa_nil))) (fun _ _ => rfl)) pa_nil))))
    (pss_cons (ps_for PassesOwn.never rfl (pi_listK (K := K) rfl (pe_lst (pa_cons (pv 3) (pa_cons (pe_un un_neg (pv 3)) (pa_cons (pe_op op_add (pv 3) pe_int) pa_nil))))) (pg_name (i := 2) sc_law_deck_right.nd rfl (.inl rfl))
      (pss_one (ps_if (pt_cmpR op_ne (pe_callB (call_reprK (K := K) rfl hr.gd hr.rm.units) (by rfl) T.z_repr bt_repr (pa_cons (callGK0 (ok_turned T) (hr.mono (by decide)) (by rfl) T.g_turned T.F_turned.kp (k_turned_0_times_shuffle T) pass0 (pk_cons (pv 2) (pk_cons (pv 1) pk_nil))) pa_nil)) (pe_callB (call_reprK (K := K) rfl hr.gd hr.rm.units) (by rfl) T.z_repr bt_repr (pa_cons (callG (ok_law_many T) (hr.mono (by decide)) (by rfl) T.g_law_many T.F_law_many.kp (b_law_many T) .nil pass0 (pa_cons (pv 1) (pa_cons (pv 2) pa_nil))) pa_nil)) (nomark _))
        (pss_one (ps_ret pe_bl))
        pss_nil)))
    (pss_cons (ps_set (i := 4) sc_law_deck_right.nd rfl (.inl rfl) (pe_tupRg rfl (by rfl) T.z_tuple (prg_1 (by rfl) T.z_range (pe_callB (call_lenK (K := K) rfl) (by rfl) T.z_len bt_len (pa_cons (pv 1) pa_nil)))))
    (pss_one (ps_ret (pe_and (pe_cmpR op_eq (pe_callB (call_reprK (K := K) rfl hr.gd hr.rm.units) (by rfl) T.z_repr bt_repr (pa_cons (callG (ok_turned T) (hr.mono (by decide)) (by rfl) T.g_turned T.F_turned.kp (b_turned T) .nil pass0 (pa_cons (pv 1) (pa_cons pe_int pa_nil))) pa_nil)) (pe_callB (call_reprK (K := K) rfl hr.gd hr.rm.units) (by rfl) T.z_repr bt_repr (pa_cons (pv 4) pa_nil)) (nomark _)) (pe_one (pe_cmpR op_eq (pe_callB (call_reprK (K := K) rfl hr.gd hr.rm.units) (by rfl) T.z_repr bt_repr (pa_cons (callG (ok_turned T) (hr.mono (by decide)) (by rfl) T.g_turned T.F_turned.kp (b_turned T) .nil pass0 (pa_cons (pv 1) (pa_cons pe_int pa_nil))) pa_nil)) (pe_callB (call_reprK (K := K) rfl hr.gd hr.rm.units) (by rfl) T.z_repr bt_repr (pa_cons (pv 1) pa_nil)) (nomark _))))))))))), ?_⟩
    have h3 := hs.2.1
    have hl : ((vi ds).length : Int) = (ds.length : Int) := by rw [List.length_map]
    refine qw_asg (ew_sub (P := fun r => -300 ≤ r ∧ r ≤ 300) (ew_drawC (m := 81) rfl ev_c (by decide) (lt8000 (by decide))) (ew_c (P := fun r => r = 40) rfl) (fun x y hx hy => by omega)) hw (by omega) ?_
    rintro _ H1 b1 w1 ⟨t, rfl, ht⟩
    have hB1 := b1.seqT nb hB
    obtain ⟨wd, ld⟩ := turn_wide hs t
    refine q_when (b := false) (et_is (et_test (ev_op (ev_reprNT (eu_call (ea_cons (ev_var rfl) (ea_cons (ev_var rfl) ea_nil)) (u_turned hB1 hs)) wd ld) (ev_reprNT (eu_call (ea_cons (ev_var rfl) (ea_cons (ev_var rfl) ea_nil)) (u_law_few hB1 hs ht)) wd ld) (rv_ne rfl))) (by simp)) (fun h => nomatch h) fun _ H2 e2 => ?_
    refine qw_asg (P := fun v => ∃ f : Int, v = .int f) (EvW.mono (ew_draw rfl (ew_ix (P1 := fun v => ∃ r : Int, v = .int r ∧ 0 < r ∧ r < 2 ^ 250) (xs := [.int 100, .int (10 ^ 18), .int (10 ^ 59)]) (el_lst (ea_cons ev_c (ea_cons (ev_op ev_c ev_c (rv_I (cpw (by decide) (by decide) (by decide)))) (ea_cons (ev_op ev_c ev_c (rv_I (cpw (by decide) (by decide) (by decide)))) ea_nil))) (by show 3 ≤ 100000; decide)) (ew_drawC (m := 3) rfl ev_c (by decide) (lt8000 (by decide))) ?_) ?_) ?_) (w1.ex e2) (by omega) ?_
    · rintro v ⟨r, rfl, r0, r1⟩
      obtain ⟨j, rfl⟩ : ∃ j : Nat, r = j := ⟨r.toNat, by omega⟩
      match j, r1 with
      | 0, _ => exact ⟨_, _, rfl, rfl, 100, rfl, by decide, by decide⟩
      | 1, _ => exact ⟨_, _, rfl, rfl, 10 ^ 18, rfl, by decide, by decide⟩
      | 2, _ => exact ⟨_, _, rfl, rfl, 10 ^ 59, rfl, by decide, by decide⟩
      | j + 3, r1 => omega
    · rintro v ⟨r, rfl, r0, r1⟩
      exact ⟨r, rfl, r0, lt8000 r1⟩
    · rintro v ⟨m, r, _, rfl, r0, r1⟩
      exact ⟨r, rfl⟩
    rintro _ H3 b3 w3 ⟨far, rfl⟩
    have bt3 := (b1.trans (But.ex e2)).trans b3
    refine q_forNLn (xs := [.int far, .int (-far), .int (far + 1)]) (el_lst (ea_cons (ev_var rfl) (ea_cons (ev_neg (ev_var rfl)) (ea_cons (ev_op (ev_var rfl) ev_c rv_I0) ea_nil))) (by show 3 ≤ 100000; decide)) (fun p i σ' H' => ∃ (y2 y3 y4 : Option V), σ' = [some (.ref a), some (.ref b), y2, y3, y4] ∧ But a H H' ∧ Well H' a (n + 3) ∧ H' p = some (.lst [.int far, .int (-far), .int (far + 1)])) ?_ ?_ ?_ ?_
    · intro p H4 f4 e4 g4
      exact ⟨_, _, _, rfl, bt3.trans (But.ex e4), (w3.ex e4).mono (by omega), g4⟩
    · rintro p i σ' H' _ ⟨y2, y3, y4, rfl, bt, w, g⟩
      exact sq_of g
    · rintro p i x σ' H' hx ⟨y2, y3, y4, rfl, bt, w, g⟩
      obtain ⟨t', rfl⟩ : ∃ t' : Int, x = .int t' := by
        match i, hx with
        | 0, hx => exact ⟨_, (Option.some.inj hx).symm⟩
        | 1, hx => exact ⟨_, (Option.some.inj hx).symm⟩
        | 2, hx => exact ⟨_, (Option.some.inj hx).symm⟩
      have hB4 := bt.seqT nb hB
      obtain ⟨wd', ld'⟩ := turn_wide hs t'
      refine s_when (b := false) (et_is (et_test (ev_op (ev_reprNT (eu_callK ea_nil (ea_cons (ev_var rfl) (ea_cons (ev_var rfl) ea_nil)) (u_turned hB4 hs)) wd' ld') (ev_reprNT (eu_call (ea_cons (ev_var rfl) (ea_cons (ev_var rfl) ea_nil)) (u_law_many hB4 hs True.intro)) wd' ld') (rv_ne rfl))) (by simp)) (fun h => nomatch h) fun _ H5 e5 => ?_
      exact ⟨_, _, _, rfl, bt.trans (But.ex e5), w.ex e5, e5 _ _ g⟩
    · rintro p σ' H' ⟨y2, y3, y4, rfl, bt, w, g⟩
      have hB4 := bt.seqT nb hB
      refine q_asgU (xs := vi (turnL ds 0)) (eu_is (eu_rg1 (n := (ds.length : Int)) (ev_is (ev_lenT (ev_var rfl) hB4) (by rw [hl])) (by omega) (by omega)) (by rw [rgV_iota, turn_zero hs])) fun p5 H5 f5 e5 g5 => ?_
      obtain ⟨wa, la⟩ := turn_wide hs 0
      obtain ⟨wb, lb⟩ := turn_wide hs 1
      have hB5 := ex_t e5 hB4
      refine s_ret (v := .bl true) (ev_is (ev_andV (a := true) (b := true) (ev_is (ev_op (ev_reprNT (eu_call (ea_cons (ev_var rfl) (ea_cons ev_c ea_nil)) (u_turned (t := 0) hB5 hs)) wa la) (ev_reprT (ev_var rfl) (st_of g5) wa la) (rv_eq rfl)) (by simp)) fun _ => ev_is (ev_op (ev_reprNT (eu_is (eu_call (ea_cons (ev_var rfl) (ea_cons ev_c ea_nil)) (u_turned (t := 1) hB5 hs)) (by rw [turn_one hs])) hs.wide (by omega)) (ev_reprT (ev_var rfl) hB5 hs.wide (by omega)) (rv_eq rfl)) (by simp)) rfl) fun H6 e6 => ?_
      exact q H6 (bt.trans (But.ex (e5.trans e6))) ((w.ex (e5.trans e6)).mono (by omega))
/-! ### _law_right -/
def sp_law_right (K : PySem.W.Frag) : Sp := fun vs H Q _ => ∃ (a : Addr) (n : Nat), vs = [.ref a] ∧ Well H a n ∧ n + 10000 ≤ 2 ^ 50 ∧ ∀ H2, But a H H2 → Q (.bl true) H2
theorem w_law_deck_right {K : PySem.W.Frag} {E : XK} {σ : L2.St} {H : Hp} {a : Addr} {i d : Nat} {tu : TE} (hσ : σ[i]? = some (some (.ref a))) (h : EvWU a d tu σ H (fun xs => ∃ ns, xs = vi ns ∧ Shf ns)) :
    EvW a (d + 10) (tCall (sp_law_deck_right K) [] E (tCons (tVar i) (tCons tu tNil))) σ H (fun v => v = .bl true) :=
  fun n H1 b w l Q q => ⟨.ref a, hσ, h n H1 b w (by omega) _ fun p xs H2 hp b2 w2 h2 ⟨ns, e, s⟩ => by
    subst e
    exact ⟨a, p, n + d, ns, rfl, w2, w.ne hp, st_of h2, s, by omega, fun H3 b3 w3 => q _ H3 (b2.trans b3) (w3.mono (by omega)) rfl⟩⟩
theorem EvWU.mono {a : Addr} {d : Nat} {te : TE} {σ : L2.St} {H : Hp} {P P1 : List V → Prop} (x : EvWU a d te σ H P) (h : ∀ v, P v → P1 v) : EvWU a d te σ H P1 := fun n H1 b w l Q q => x n H1 b w l Q fun p v H2 hp b2 w2 g2 k => q p v H2 hp b2 w2 g2 (h v k)
theorem ok_law_right (T : Txt K mg) : FnG P w K mg base CX0 5 T.a_law_right T.d_law_right ["well"] (sp_law_right K) := by
  refine okG T.F_law_right sc_law_right (fun vs H Q E h => ?_) (fun cdv A out s H vs Q E hr h => ?_)
  · obtain ⟨a, n, rfl, hw, hn, q⟩ := h
    rfl
  · obtain ⟨a, n, rfl, hw, hn, q⟩ := h
    refine ⟨_, (pss_cons (ps_for PassesOwn.never rfl (pi_range1 (by rfl) T.z_range (pa_cons pe_int pa_nil)) (pg_name (i := 1) sc_law_right.nd rfl (.inl rfl))
      (pss_one (ps_if (pt_not (pt_val (callG (ok_law_deck_right T) (hr.mono (by decide)) (by rfl) T.g_law_deck_right T.F_law_deck_right.kp (b_law_deck_right T) .nil pass0 (pa_cons (pv 0) (pa_cons (callG (ok_law_deck T) (hr.mono (by decide)) (by rfl) T.g_law_deck T.F_law_deck.kp (b_law_deck T) .nil pass0 (pa_cons (pv 0) (pa_cons pe_int pa_nil))) pa_nil)))))
        (pss_one (ps_ret pe_bl))
        pss_nil)))
    (pss_one (ps_ret (pe_or (pe_cmpR op_gt (callG (ok_law_draw T) (hr.mono (by decide)) (by rfl) T.g_law_draw T.F_law_draw.kp (b_law_draw T) .nil pass0 (pa_cons (pv 0) (pa_cons pe_int pa_nil))) pe_int (nomark _)) (pe_one (callG (ok_law_deck_right T) (hr.mono (by decide)) (by rfl) T.g_law_deck_right T.F_law_deck_right.kp (b_law_deck_right T) .nil pass0 (pa_cons (pv 0) (pa_cons (callG (ok_law_great_deck T) (hr.mono (by decide)) (by rfl) T.g_law_great_deck T.F_law_great_deck.kp (b_law_great_deck T) .nil pass0 (pa_cons (pv 0) pa_nil)) pa_nil)))))))), ?_⟩
    refine q_forR1 (n := 3) (ea_cons ev_c ea_nil) (by decide) (fun i σ' H' => ∃ y1, σ' = [some (.ref a), y1] ∧ But a H H' ∧ Well H' a (n + 2000 * i)) ?_ ?_ ?_
    · intro H1 e1
      exact ⟨_, rfl, But.ex e1, hw.ex e1⟩
    · rintro i σ' H' hi ⟨y1, rfl, b, w⟩
      refine sw_when (b := false) (ewt_not (c := true) (ewt_test (w_law_deck_right rfl (EvWU.mono (wu_law_deck (P := fun r => r = 40) rfl (ew_c rfl) (fun r hr => by omega)) fun v ⟨ns, e, s, _⟩ => ⟨ns, e, s⟩)))) w (by omega) (fun h => nomatch h) fun _ H1 b1 w1 => ?_
      exact ⟨_, rfl, b.trans b1, w1.mono (by omega)⟩
    · rintro σ' H' ⟨y1, rfl, b, w⟩
      refine sw_ret (ew_orV (c := true) (ew_gt (P2 := fun r => r = 0) (ew_drawC (m := 4) rfl ev_c (by decide) (lt8000 (by decide))) (ew_c rfl)) (w_law_deck_right rfl (EvWU.mono (wu_law_great_deck rfl) fun v ⟨ns, e, s, _⟩ => ⟨ns, e, s⟩))) (w.mono (m := n + 6000) (by omega)) (by omega) ?_
      rintro _ H2 b2 w2 rfl
      exact q H2 (b.trans b2)
/-! ### law -/
def sp_law (K : PySem.W.Frag) : Sp := fun vs H Q _ => ∃ (a : Addr) (ns : List Int), vs = [.ref a] ∧ SqL K H a (vi ns) ∧ ns.length ≤ 63 ∧ ∀ H', Q (.bl true) H'
theorem ok_law (T : Txt K mg) : FnG P w K mg base CX0 6 T.a_law T.d_law ["script"] (sp_law K) := by
  refine okG T.F_law sc_law (fun vs H Q E h => ?_) (fun cdv A out s H vs Q E hr h => ?_)
  · obtain ⟨a, ns, rfl, hS, hl, q⟩ := h
    rfl
  · obtain ⟨a, ns, rfl, hS, hl, q⟩ := h
    refine ⟨_, (pss_cons (ps_for PassesOwn.never rfl (pi_range1 (by rfl) T.z_range (pa_cons (pe_callB (call_max2 rfl) (by rfl) T.z_max bt_max (pa_cons pe_int (pa_cons (pe_callB (call_min2 rfl) (by rfl) T.z_min bt_min (pa_cons pe_int (pa_cons (pe_callB (call_lenK (K := K) rfl) (by rfl) T.z_len bt_len (pa_cons (pv 0) pa_nil)) pa_nil))) pa_nil))) pa_nil)) (pg_name (i := 1) sc_law.nd rfl (.inl rfl))
      (pss_one (ps_if (pt_not (pt_val (callG (ok_law_right T) (hr.mono (by decide)) (by rfl) T.g_law_right T.F_law_right.kp (b_law_right T) .nil pass0 (pa_cons (callG (ok_law_well T) (hr.mono (by decide)) (by rfl) T.g_law_well T.F_law_well.kp (b_law_well T) .nil pass0 (pa_cons (pv 0) (pa_cons (pv 1) pa_nil))) pa_nil))))
        (pss_one (ps_ret pe_bl))
        pss_nil)))
    (pss_one (ps_ret pe_bl))), ?_⟩
    refine q_forR1 (ea_cons (ev_max2 ev_c (ev_min2 ev_c (ev_len (ev_var rfl) hS))) ea_nil) ?_ (fun i σ' H' => ∃ y1, σ' = [some (.ref a), y1] ∧ Ex H H') ?_ ?_ ?_
    · split <;> split <;> omega
    · intro H1 e1
      exact ⟨_, rfl, e1⟩
    · rintro i σ' H' hi ⟨y1, rfl, e⟩
      have h6 : (i : Int) < 7 := by
        split at hi <;> split at hi <;> omega
      refine ⟨.ref a, rfl, .int i, rfl, a, ns, i, rfl, ex_l e hS, by omega, by omega, fun p H1 hp e1 hw => ?_⟩
      refine ⟨p, 0, rfl, hw, by decide, fun H2 b2 => ⟨true, rfl, iteF ?_⟩⟩
      exact ⟨_, rfl, e.trans (ex_but e1 hp b2)⟩
    · rintro σ' H' ⟨y1, rfl, e⟩
      exact s_ret ev_c fun H2 _ => q H2
end
theorem all_mk {w : World} {K : PySem.W.Frag} {h : Heap} {mg : Str → Option Value} {fa : Addr} (X : K.In h) (G : h.Ns mainGlobals mg) (hfa : mg "law" = some (.ref fa))
    {f0 : Addr} {od0 an0 : Option Addr} {sl0 : Array (Option Value)} {oc0 kV0 dc0 pm0 cd0 ct0 : Value}
    (a0 : PySem.W.nsIn K mainGlobals "is_whole" = some (some (.ref f0))) (l0 : K.lookup f0 = some ⟨oc0, od0, .func (PySem.W.fnOf "is_whole" "is_whole" (defArgs s_is_whole) (defBody s_is_whole) (defScope s_is_whole) .none kV0 dc0 pm0 an0 cd0 ct0), sl0⟩) (c0 : PySem.W.codeIn K cd0 "is_whole" = true) (k0 : PySem.W.keepIn K (.ref f0) = true)
    {f1 : Addr} {od1 an1 : Option Addr} {sl1 : Array (Option Value)} {oc1 kV1 dc1 pm1 cd1 ct1 : Value}
    (a1 : PySem.W.nsIn K mainGlobals "_rings_in" = some (some (.ref f1))) (l1 : K.lookup f1 = some ⟨oc1, od1, .func (PySem.W.fnOf "_rings_in" "_rings_in" (defArgs s_rings_in) (defBody s_rings_in) (defScope s_rings_in) .none kV1 dc1 pm1 an1 cd1 ct1), sl1⟩) (c1 : PySem.W.codeIn K cd1 "_rings_in" = true) (k1 : PySem.W.keepIn K (.ref f1) = true)
    {f2 : Addr} {od2 an2 : Option Addr} {sl2 : Array (Option Value)} {oc2 kV2 dc2 pm2 cd2 ct2 : Value}
    (a2 : PySem.W.nsIn K mainGlobals "_law_well" = some (some (.ref f2))) (l2 : K.lookup f2 = some ⟨oc2, od2, .func (PySem.W.fnOf "_law_well" "_law_well" (defArgs s_law_well) (defBody s_law_well) (defScope s_law_well) .none kV2 dc2 pm2 an2 cd2 ct2), sl2⟩) (c2 : PySem.W.codeIn K cd2 "_law_well" = true) (k2 : PySem.W.keepIn K (.ref f2) = true)
    {f3 : Addr} {od3 an3 : Option Addr} {sl3 : Array (Option Value)} {oc3 kV3 dc3 pm3 cd3 ct3 : Value}
    (a3 : PySem.W.nsIn K mainGlobals "_law_draw" = some (some (.ref f3))) (l3 : K.lookup f3 = some ⟨oc3, od3, .func (PySem.W.fnOf "_law_draw" "_law_draw" (defArgs s_law_draw) (defBody s_law_draw) (defScope s_law_draw) .none kV3 dc3 pm3 an3 cd3 ct3), sl3⟩) (c3 : PySem.W.codeIn K cd3 "_law_draw" = true) (k3 : PySem.W.keepIn K (.ref f3) = true)
    {f4 : Addr} {od4 an4 : Option Addr} {sl4 : Array (Option Value)} {oc4 kV4 dc4 pm4 cd4 ct4 : Value}
    (a4 : PySem.W.nsIn K mainGlobals "_law_ring_at" = some (some (.ref f4))) (l4 : K.lookup f4 = some ⟨oc4, od4, .func (PySem.W.fnOf "_law_ring_at" "_law_ring_at" (defArgs s_law_ring_at) (defBody s_law_ring_at) (defScope s_law_ring_at) .none kV4 dc4 pm4 an4 cd4 ct4), sl4⟩) (c4 : PySem.W.codeIn K cd4 "_law_ring_at" = true) (k4 : PySem.W.keepIn K (.ref f4) = true)
    {f5 : Addr} {od5 an5 : Option Addr} {sl5 : Array (Option Value)} {oc5 kV5 dc5 pm5 cd5 ct5 : Value}
    (a5 : PySem.W.nsIn K mainGlobals "_law_few" = some (some (.ref f5))) (l5 : K.lookup f5 = some ⟨oc5, od5, .func (PySem.W.fnOf "_law_few" "_law_few" (defArgs s_law_few) (defBody s_law_few) (defScope s_law_few) .none kV5 dc5 pm5 an5 cd5 ct5), sl5⟩) (c5 : PySem.W.codeIn K cd5 "_law_few" = true) (k5 : PySem.W.keepIn K (.ref f5) = true)
    {f6 : Addr} {od6 an6 : Option Addr} {sl6 : Array (Option Value)} {oc6 kV6 dc6 pm6 cd6 ct6 : Value}
    (a6 : PySem.W.nsIn K mainGlobals "check_shuffle" = some (some (.ref f6))) (l6 : K.lookup f6 = some ⟨oc6, od6, .func (PySem.W.fnOf "check_shuffle" "check_shuffle" (defArgs s_check_shuffle) (defBody s_check_shuffle) (defScope s_check_shuffle) .none kV6 dc6 pm6 an6 cd6 ct6), sl6⟩) (c6 : PySem.W.codeIn K cd6 "check_shuffle" = true) (k6 : PySem.W.keepIn K (.ref f6) = true)
    {f7 : Addr} {od7 an7 : Option Addr} {sl7 : Array (Option Value)} {oc7 kV7 dc7 pm7 cd7 ct7 : Value}
    (a7 : PySem.W.nsIn K mainGlobals "_law_mixed" = some (some (.ref f7))) (l7 : K.lookup f7 = some ⟨oc7, od7, .func (PySem.W.fnOf "_law_mixed" "_law_mixed" (defArgs s_law_mixed) (defBody s_law_mixed) (defScope s_law_mixed) .none kV7 dc7 pm7 an7 cd7 ct7), sl7⟩) (c7 : PySem.W.codeIn K cd7 "_law_mixed" = true) (k7 : PySem.W.keepIn K (.ref f7) = true)
    {f8 : Addr} {od8 an8 : Option Addr} {sl8 : Array (Option Value)} {oc8 kV8 dc8 pm8 cd8 ct8 : Value}
    (a8 : PySem.W.nsIn K mainGlobals "_law_ringed" = some (some (.ref f8))) (l8 : K.lookup f8 = some ⟨oc8, od8, .func (PySem.W.fnOf "_law_ringed" "_law_ringed" (defArgs s_law_ringed) (defBody s_law_ringed) (defScope s_law_ringed) .none kV8 dc8 pm8 an8 cd8 ct8), sl8⟩) (c8 : PySem.W.codeIn K cd8 "_law_ringed" = true) (k8 : PySem.W.keepIn K (.ref f8) = true)
    {f9 : Addr} {od9 an9 : Option Addr} {sl9 : Array (Option Value)} {oc9 kV9 dc9 pm9 cd9 ct9 : Value}
    (a9 : PySem.W.nsIn K mainGlobals "_law_many" = some (some (.ref f9))) (l9 : K.lookup f9 = some ⟨oc9, od9, .func (PySem.W.fnOf "_law_many" "_law_many" (defArgs s_law_many) (defBody s_law_many) (defScope s_law_many) .none kV9 dc9 pm9 an9 cd9 ct9), sl9⟩) (c9 : PySem.W.codeIn K cd9 "_law_many" = true) (k9 : PySem.W.keepIn K (.ref f9) = true)
    {f10 : Addr} {od10 an10 : Option Addr} {sl10 : Array (Option Value)} {oc10 kV10 dc10 pm10 cd10 ct10 : Value}
    (a10 : PySem.W.nsIn K mainGlobals "turned" = some (some (.ref f10))) (l10 : K.lookup f10 = some ⟨oc10, od10, .func (PySem.W.fnOf "turned" "turned" (defArgs s_turned) (defBody s_turned) (defScope s_turned) .none kV10 dc10 pm10 an10 cd10 ct10), sl10⟩) (c10 : PySem.W.codeIn K cd10 "turned" = true) (k10 : PySem.W.keepIn K (.ref f10) = true)
    {f11 : Addr} {od11 an11 : Option Addr} {sl11 : Array (Option Value)} {oc11 kV11 dc11 pm11 cd11 ct11 : Value}
    (a11 : PySem.W.nsIn K mainGlobals "_law_deck" = some (some (.ref f11))) (l11 : K.lookup f11 = some ⟨oc11, od11, .func (PySem.W.fnOf "_law_deck" "_law_deck" (defArgs s_law_deck) (defBody s_law_deck) (defScope s_law_deck) .none kV11 dc11 pm11 an11 cd11 ct11), sl11⟩) (c11 : PySem.W.codeIn K cd11 "_law_deck" = true) (k11 : PySem.W.keepIn K (.ref f11) = true)
    {f12 : Addr} {od12 an12 : Option Addr} {sl12 : Array (Option Value)} {oc12 kV12 dc12 pm12 cd12 ct12 : Value}
    (a12 : PySem.W.nsIn K mainGlobals "_law_great_deck" = some (some (.ref f12))) (l12 : K.lookup f12 = some ⟨oc12, od12, .func (PySem.W.fnOf "_law_great_deck" "_law_great_deck" (defArgs s_law_great_deck) (defBody s_law_great_deck) (defScope s_law_great_deck) .none kV12 dc12 pm12 an12 cd12 ct12), sl12⟩) (c12 : PySem.W.codeIn K cd12 "_law_great_deck" = true) (k12 : PySem.W.keepIn K (.ref f12) = true)
    {f13 : Addr} {od13 an13 : Option Addr} {sl13 : Array (Option Value)} {oc13 kV13 dc13 pm13 cd13 ct13 : Value}
    (a13 : PySem.W.nsIn K mainGlobals "_law_deck_right" = some (some (.ref f13))) (l13 : K.lookup f13 = some ⟨oc13, od13, .func (PySem.W.fnOf "_law_deck_right" "_law_deck_right" (defArgs s_law_deck_right) (defBody s_law_deck_right) (defScope s_law_deck_right) .none kV13 dc13 pm13 an13 cd13 ct13), sl13⟩) (c13 : PySem.W.codeIn K cd13 "_law_deck_right" = true) (k13 : PySem.W.keepIn K (.ref f13) = true)
    {f14 : Addr} {od14 an14 : Option Addr} {sl14 : Array (Option Value)} {oc14 kV14 dc14 pm14 cd14 ct14 : Value}
    (a14 : PySem.W.nsIn K mainGlobals "_law_right" = some (some (.ref f14))) (l14 : K.lookup f14 = some ⟨oc14, od14, .func (PySem.W.fnOf "_law_right" "_law_right" (defArgs s_law_right) (defBody s_law_right) (defScope s_law_right) .none kV14 dc14 pm14 an14 cd14 ct14), sl14⟩) (c14 : PySem.W.codeIn K cd14 "_law_right" = true) (k14 : PySem.W.keepIn K (.ref f14) = true)
    {f15 : Addr} {od15 an15 : Option Addr} {sl15 : Array (Option Value)} {oc15 kV15 dc15 pm15 cd15 ct15 : Value}
    (a15 : PySem.W.nsIn K mainGlobals "law" = some (some (.ref f15))) (l15 : K.lookup f15 = some ⟨oc15, od15, .func (PySem.W.fnOf "law" "law" (defArgs s_law) (defBody s_law) (defScope s_law) .none kV15 dc15 pm15 an15 cd15 ct15), sl15⟩) (c15 : PySem.W.codeIn K cd15 "law" = true) (k15 : PySem.W.keepIn K (.ref f15) = true)
    {t_MOST_THINGS : Tok} (m_MOST_THINGS : PySem.W.nsIn K mainGlobals "MOST_THINGS" = some (some (.int 300 t_MOST_THINGS)))
    (z_abs : PySem.W.nsIn K mainGlobals "abs" = some none)
    (z_all : PySem.W.nsIn K mainGlobals "all" = some none)
    (z_bool : PySem.W.nsIn K mainGlobals "bool" = some none)
    (z_enumerate : PySem.W.nsIn K mainGlobals "enumerate" = some none)
    (z_int : PySem.W.nsIn K mainGlobals "int" = some none)
    (z_isinstance : PySem.W.nsIn K mainGlobals "isinstance" = some none)
    (z_len : PySem.W.nsIn K mainGlobals "len" = some none)
    (z_list : PySem.W.nsIn K mainGlobals "list" = some none)
    (z_max : PySem.W.nsIn K mainGlobals "max" = some none)
    (z_min : PySem.W.nsIn K mainGlobals "min" = some none)
    (z_range : PySem.W.nsIn K mainGlobals "range" = some none)
    (z_repr : PySem.W.nsIn K mainGlobals "repr" = some none)
    (z_sorted : PySem.W.nsIn K mainGlobals "sorted" = some none)
    (z_tuple : PySem.W.nsIn K mainGlobals "tuple" = some none)
    : ∃ fd : FuncData, (∀ (s : Shared) (v : Value), BindsTo s fd ⟨[v], []⟩ [("script", v)]) ∧ ∀ base : Heap, K.In base → base.Ns mainGlobals mg → FnG PySem.Challenge.rw_backafter_k12_shuffles_turned.prog w K mg base CX0 6 fa fd ["script"] (sp_law K) := by
  have e := hfa.symm.trans (PySem.W.mg_of X G a15)
  cases e
  let T : Txt K mg := {
    a_is_whole := _
    d_is_whole := _
    F_is_whole := fun_mk (st := s_is_whole) l0 c0 k0
    g_is_whole := PySem.W.mg_of X G a0
    a_rings_in := _
    d_rings_in := _
    F_rings_in := fun_mk (st := s_rings_in) l1 c1 k1
    g_rings_in := PySem.W.mg_of X G a1
    a_law_well := _
    d_law_well := _
    F_law_well := fun_mk (st := s_law_well) l2 c2 k2
    g_law_well := PySem.W.mg_of X G a2
    a_law_draw := _
    d_law_draw := _
    F_law_draw := fun_mk (st := s_law_draw) l3 c3 k3
    g_law_draw := PySem.W.mg_of X G a3
    a_law_ring_at := _
    d_law_ring_at := _
    F_law_ring_at := fun_mk (st := s_law_ring_at) l4 c4 k4
    g_law_ring_at := PySem.W.mg_of X G a4
    a_law_few := _
    d_law_few := _
    F_law_few := fun_mk (st := s_law_few) l5 c5 k5
    g_law_few := PySem.W.mg_of X G a5
    a_check_shuffle := _
    d_check_shuffle := _
    F_check_shuffle := fun_mk (st := s_check_shuffle) l6 c6 k6
    g_check_shuffle := PySem.W.mg_of X G a6
    a_law_mixed := _
    d_law_mixed := _
    F_law_mixed := fun_mk (st := s_law_mixed) l7 c7 k7
    g_law_mixed := PySem.W.mg_of X G a7
    a_law_ringed := _
    d_law_ringed := _
    F_law_ringed := fun_mk (st := s_law_ringed) l8 c8 k8
    g_law_ringed := PySem.W.mg_of X G a8
    a_law_many := _
    d_law_many := _
    F_law_many := fun_mk (st := s_law_many) l9 c9 k9
    g_law_many := PySem.W.mg_of X G a9
    a_turned := _
    d_turned := _
    F_turned := fun_mk (st := s_turned) l10 c10 k10
    g_turned := PySem.W.mg_of X G a10
    a_law_deck := _
    d_law_deck := _
    F_law_deck := fun_mk (st := s_law_deck) l11 c11 k11
    g_law_deck := PySem.W.mg_of X G a11
    a_law_great_deck := _
    d_law_great_deck := _
    F_law_great_deck := fun_mk (st := s_law_great_deck) l12 c12 k12
    g_law_great_deck := PySem.W.mg_of X G a12
    a_law_deck_right := _
    d_law_deck_right := _
    F_law_deck_right := fun_mk (st := s_law_deck_right) l13 c13 k13
    g_law_deck_right := PySem.W.mg_of X G a13
    a_law_right := _
    d_law_right := _
    F_law_right := fun_mk (st := s_law_right) l14 c14 k14
    g_law_right := PySem.W.mg_of X G a14
    a_law := _
    d_law := _
    F_law := fun_mk (st := s_law) l15 c15 k15
    g_law := PySem.W.mg_of X G a15
    t_MOST_THINGS := t_MOST_THINGS
    c_MOST_THINGS := PySem.W.mg_of X G m_MOST_THINGS
    z_abs := PySem.W.mg_none_of X G z_abs
    z_all := PySem.W.mg_none_of X G z_all
    z_bool := PySem.W.mg_none_of X G z_bool
    z_enumerate := PySem.W.mg_none_of X G z_enumerate
    z_int := PySem.W.mg_none_of X G z_int
    z_isinstance := PySem.W.mg_none_of X G z_isinstance
    z_len := PySem.W.mg_none_of X G z_len
    z_list := PySem.W.mg_none_of X G z_list
    z_max := PySem.W.mg_none_of X G z_max
    z_min := PySem.W.mg_none_of X G z_min
    z_range := PySem.W.mg_none_of X G z_range
    z_repr := PySem.W.mg_none_of X G z_repr
    z_sorted := PySem.W.mg_none_of X G z_sorted
    z_tuple := PySem.W.mg_none_of X G z_tuple }
  exact ⟨T.d_law, fun s v => .of_eq rfl, fun base _ _ => ok_law T⟩
end My
open PySem PySem.W PyProof.Rows
set_option maxHeartbeats 0 in
theorem PySem.Challenge.cw_backafter_k12_shuffles_turned_holds : PySem.Challenge.rw_backafter_k12_shuffles_turned.Holds := by
  w_on; o_law; k_head; (case hw => w_witness2)
  k_fill
  refine Bk.walkG (l := PySem.Challenge.rw_backafter_k12_shuffles_turned) (n := 63) (k := 6) (x := "script") (CX := fun _ => L2.CX0) (sp := fun w => My.sp_law _) rfl (by decide) rfl ⟨⟨rfl, by decide, by decide⟩, rfl⟩ (fun w h Y => PySem.W.kIn_of Y) ?F (fun _ _ a ns hl _ hS => ⟨a, ns, rfl, hS, hl, fun _ => rfl⟩) (fun _ _ _ _ _ h => h)
  case F =>
    intro w mg fa h KX G hmg
    refine' My.all_mk KX G hmg ?a0 ?l0 ?c0 ?k0 ?a1 ?l1 ?c1 ?k1 ?a2 ?l2 ?c2 ?k2 ?a3 ?l3 ?c3 ?k3 ?a4 ?l4 ?c4 ?k4 ?a5 ?l5 ?c5 ?k5 ?a6 ?l6 ?c6 ?k6 ?a7 ?l7 ?c7 ?k7 ?a8 ?l8 ?c8 ?k8 ?a9 ?l9 ?c9 ?k9 ?a10 ?l10 ?c10 ?k10 ?a11 ?l11 ?c11 ?k11 ?a12 ?l12 ?c12 ?k12 ?a13 ?l13 ?c13 ?k13 ?a14 ?l14 ?c14 ?k14 ?a15 ?l15 ?c15 ?k15 ?m_MOST_THINGS ?z_abs ?z_all ?z_bool ?z_enumerate ?z_int ?z_isinstance ?z_len ?z_list ?z_max ?z_min ?z_range ?z_repr ?z_sorted ?z_tuple
    (case a0 => k_is); (case l0 => k_is); (case c0 => k_is); (case k0 => k_is); (case a1 => k_is); (case l1 => k_is); (case c1 => k_is); (case k1 => k_is); (case a2 => k_is); (case l2 => k_is); (case c2 => k_is); (case k2 => k_is); (case a3 => k_is); (case l3 => k_is); (case c3 => k_is); (case k3 => k_is); (case a4 => k_is); (case l4 => k_is); (case c4 => k_is); (case k4 => k_is); (case a5 => k_is); (case l5 => k_is); (case c5 => k_is); (case k5 => k_is); (case a6 => k_is); (case l6 => k_is); (case c6 => k_is); (case k6 => k_is); (case a7 => k_is); (case l7 => k_is); (case c7 => k_is); (case k7 => k_is); (case a8 => k_is); (case l8 => k_is); (case c8 => k_is); (case k8 => k_is); (case a9 => k_is); (case l9 => k_is); (case c9 => k_is); (case k9 => k_is); (case a10 => k_is); (case l10 => k_is); (case c10 => k_is); (case k10 => k_is); (case a11 => k_is); (case l11 => k_is); (case c11 => k_is); (case k11 => k_is); (case a12 => k_is); (case l12 => k_is); (case c12 => k_is); (case k12 => k_is); (case a13 => k_is); (case l13 => k_is); (case c13 => k_is); (case k13 => k_is); (case a14 => k_is); (case l14 => k_is); (case c14 => k_is); (case k14 => k_is); (case a15 => k_is); (case l15 => k_is); (case c15 => k_is); (case k15 => k_is); (case m_MOST_THINGS => k_is); (case z_abs => k_is); (case z_all => k_is); (case z_bool => k_is); (case z_enumerate => k_is); (case z_int => k_is); (case z_isinstance => k_is); (case z_len => k_is); (case z_list => k_is); (case z_max => k_is); (case z_min => k_is); (case z_range => k_is); (case z_repr => k_is); (case z_sorted => k_is); (case z_tuple => k_is)
