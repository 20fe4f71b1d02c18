import PyProof.Rows.All
import Wide.All
import OpenK.AllK
import Wide.FinOn
import HandS.ForMost
import HandS.AnyAll
import HandS.GenOver
import PyProof.GenCompD
import PyProof.GenQ
import PyProof.ConsumeS
import HandS.Strs
import KE.GoesMore
import PyProof.EnumMake
import HandS.Walk
import HandS.TupAny
import HandS.TupMul
import HandS.Style
import HandS.SetFor
import HandS.TryOnly
import HandS.Evl
import HandS.Wide
import PyProof.FitsInt
import PyProof.ReprLen
import PyProof.StrLawsRepr
import HandS.IsInst
import HandS.ForExc
import HandS.ExcInit
import HandS.ExcOwn
import HandS.RaiseMore
import HandS.FStr
import HandS.CallLocal
import KE.KExcIs
import HandS.ExcIs
import HandS.ExcField
import KE.KNest
import PyProof.P3In
import KE.RegKIsAll
import PySem.Challenge.RW_countveil_k03_records_counted
set_option Elab.async false
set_option linter.all false
set_option maxRecDepth 100000
set_option maxHeartbeats 4000000
/-! all(elt for x in it), the element free to call: the generator is walked with a word of the state. -/
namespace Gx
open PySem PySem.Spec PyProof.Rows
section
variable {prog : Program} {w : World}
/-- the state while the generator sleeps: no object changes -/
structure Slp (s s2 : Shared) : Prop where
  heap : s2.heap = s.heap
  os : s2.os = s.os
  bare : AllBare s.gens → AllBare s2.gens
  size : s.gens.size ≤ s2.gens.size
/-- what is known of one genexp: its code, its iterator, the state's word -/
structure Gw (prog : Program) (w : World) (A : Around) (elt iter : Expr) (tg : Expr) (scope : Scope) (pos : Pos) (I : Addr) (cenv : Env) (n : Nat) (pb : Nat → Bool) (a : Addr) (g : Nat) (Kd : Nat → Shared → Prop) (Kf : Shared → Prop) : Prop where
  hh : A.handled = none
  turn : ∀ j (s : Shared), j < n → Kd j s → wpAny (model prog w) (A.over (.compLoop (.GeneratorExp elt [⟨tg, iter, [], 0⟩] scope pos) 0 (.ref I) .none cenv) []) (pyNext (.ref I)) (fun r s1 => ∃ u, r = some u ∧
    wpAny (model prog w) (A.over (.compLoop (.GeneratorExp elt [⟨tg, iter, [], 0⟩] scope pos) 0 (.ref I) .none cenv) []) (letOwnedTupleGo tg (.ref I) u) (fun _ s2 =>
      wpAny (model prog w) (A.over (.compLoop (.GeneratorExp elt [⟨tg, iter, [], 0⟩] scope pos) 0 (.ref I) .none cenv) []) (assign tg cenv u) (fun _ s3 =>
        wpAny (model prog w) (A.over (.compLoop (.GeneratorExp elt [⟨tg, iter, [], 0⟩] scope pos) 0 (.ref I) .none cenv) []) (eval elt cenv) (fun y s4 => y = .bool (pb j) ∧ Kd (j + 1) s4) (fun _ _ => False) s3) (fun _ _ => False) s2) (fun _ _ => False) s1) (fun _ _ => False) s
  done : ∀ (s : Shared), Kd n s → wpAny (model prog w) (A.over (.compLoop (.GeneratorExp elt [⟨tg, iter, [], 0⟩] scope pos) 0 (.ref I) .none cenv) []) (pyNext (.ref I)) (fun r s1 => r = none ∧ Kf s1) (fun _ _ => False) s
  gn : ∀ j s, Kd j s → s.heap.IsGen a g ∧ s.heap.NoLimit
  sz : ∀ j s, Kd j s → g < s.gens.size
  slp : ∀ j s s2, Kd j s → Slp s s2 → Kd j s2
  co : cenv.scope.isCoroutine = false
/-- what is yielded, and how one goes on -/
def Yp (n : Nat) (pb : Nat → Bool) (Kd : Nat → Shared → Prop) : Protocol := fun m _ v s1 kap => v = .bool (pb (n - 1 - m)) ∧ Kd (n - m) s1 ∧ ∀ s2, Slp s1 s2 → kap (.send .none) s2
def Rp (Kf : Shared → Prop) : GenEnd := fun m _ r s1 => r = .ok .next ∧ (m = 0 ∧ Kf s1)
theorem seg_walk {A : Around} {elt iter : Expr} {tg : Expr} {scope : Scope} {pos : Pos} {I : Addr} {cenv : Env} {n : Nat} {pb : Nat → Bool} {a : Addr} {g : Nat} {Kd : Nat → Shared → Prop} {Kf : Shared → Prop}
    (G : Gw prog w A elt iter tg scope pos I cenv n pb a g Kd Kf) : ∀ (k j : Nat) (s0 s : Shared), n - j = k → j ≤ n → Kd j s →
      Seg (model prog w) A (Rp Kf) (Yp n pb Kd) (n - j) s0 (.compLoop (.GeneratorExp elt [⟨tg, iter, [], 0⟩] scope pos) 0 (.ref I) .none cenv)
        ((model prog w).den (.compLoop (.GeneratorExp elt [⟨tg, iter, [], 0⟩] scope pos) 0 (.ref I) .none cenv)) [] s := by
  have off : (A.over (.compLoop (.GeneratorExp elt [⟨tg, iter, [], 0⟩] scope pos) 0 (.ref I) .none cenv) []).handled = none := G.hh
  intro k
  induction k with
  | zero =>
    intro j s0 s hk hj kd
    obtain rfl : j = n := by omega
    show Seg _ A _ _ _ s0 _ ((compTurn _ 0 (.ref I) .none cenv).onRaise (leaving cenv)) [] s
    rw [compTurn_gen, Sem.onRaise_eq_wrap]
    refine seg_bind_wrap (wpAny_standAt (seg_bind_wrap (wpAny_mono (G.done s kd) (fun r s1 h => ?_) fun _ _ e => False.elim e)))
    obtain ⟨rfl, kf⟩ := h
    exact seg_end (.ok .next) ⟨rfl, Nat.sub_self _, kf⟩
  | succ k ih =>
    intro j s0 s hk hj kd
    have hlt : j < n := by omega
    show Seg _ A _ _ _ s0 _ ((compTurn _ 0 (.ref I) .none cenv).onRaise (leaving cenv)) [] s
    rw [compTurn_gen, Sem.onRaise_eq_wrap]
    refine seg_bind_wrap (wpAny_standAt (seg_bind_wrap (wpAny_mono (G.turn j s hlt kd) (fun r s1 h => ?_) fun _ _ e => False.elim e)))
    obtain ⟨u, rfl, h1⟩ := h
    refine seg_bind_wrap (wpAny_mono h1 (fun _ s2 h2 => ?_) fun _ _ e => False.elim e)
    refine seg_bind_wrap (wpAny_mono h2 (fun _ s3 h3 => ?_) fun _ _ e => False.elim e)
    simp only [List.forIn_nil, pure_bind, if_true]
    have hy : ∀ u, yieldOut cenv u = yieldValue u := fun u => by simp only [yieldOut, G.co, Bool.false_eq_true, if_false]
    simp only [hy]
    rw [Sem.bind_eq_wrap', Sem.bind_eq_wrap', Sem.wrap_wrap, Sem.wrap_wrap]
    refine seg_wrap (wpAny_mono h3 (fun y s3 h3 => ?_) fun _ _ e => False.elim e)
    obtain ⟨rfl, kd3⟩ := h3
    have e1 : n - j = (n - (j + 1)) + 1 := by omega
    rw [e1]
    refine seg_at (seg_yield rfl rfl rfl ⟨by rw [show n - 1 - (n - (j + 1)) = j by omega], by rw [show n - (n - (j + 1)) = j + 1 by omega]; exact kd3, fun s2 sl => ?_⟩)
    exact seg_again rfl (ih (j + 1) s2 s2 (by omega) hlt (G.slp _ _ _ kd3 sl))
/-- the generator sleeps, j items are out -/
structure GenK (prog : Program) (w : World) (A : Around) (n : Nat) (pb : Nat → Bool) (g : Nat) (Kd : Nat → Shared → Prop) (Kf : Shared → Prop) (j : Nat) (s : Shared) : Prop where
  kd : Kd j s
  go : ∃ gs, s.gens[g]? = some gs ∧ ∀ s2, Slp s s2 → gs.Goes (model prog w) A (Rp Kf) (Yp n pb Kd) (n - j) (.send .none) s2
theorem bare_set {s : Shared} {g : Nat} {x : GenState} (h : AllBare s.gens) (hx : x.bare = true) : AllBare (s.setGen g x).gens := fun y hy => by
  have hy' : y ∈ s.gens.setIfInBounds g x := hy
  rcases Array.mem_or_eq_of_mem_setIfInBounds hy' with h1 | h1
  · exact h y h1
  · rw [h1]
    exact hx
theorem slp_set {s : Shared} {g : Nat} {x : GenState} (hx : x.bare = true) : Slp s (s.setGen g x) :=
  ⟨rfl, rfl, fun h => bare_set h hx, by rw [GenW.setGen_size]; exact Nat.le_refl _⟩
theorem Slp.trans {s s2 s3 : Shared} (x : Slp s s2) (y : Slp s2 s3) : Slp s s3 := ⟨y.heap.trans x.heap, y.os.trans x.os, fun h => y.bare (x.bare h), Nat.le_trans x.size y.size⟩
theorem all_loop {A : Around} {elt iter : Expr} {tg : Expr} {scope : Scope} {pos : Pos} {I : Addr} {cenv : Env} {n : Nat} {pb : Nat → Bool} {a : Addr} {g : Nat} {Kd : Nat → Shared → Prop} {Kf Kz : Shared → Prop} {R : Result → Shared → Prop}
    (G : Gw prog w A.in1.in1 elt iter tg scope pos I cenv n pb a g Kd Kf) (hroom : A.in1.depth < recursionLimit) (z1 : ∀ (s : Shared) h2, Kf s → (∀ b o, s.heap.get? b = some o → h2.get? b = some o) → Kz { s.setGen g .finished with heap := h2 }) (z2 : ∀ j s, Kd j s → Kz s) :
    ∀ (k j : Nat) (s : Shared), n - j = k → j ≤ n → GenK prog w A.in1.in1 n pb g Kd Kf j s → (∀ s2, Kz s2 → R (.ok (.ret (.bool (((List.range n).drop j).all pb)))) s2) → codeAny (model prog w) A (.builtin "all.loop" ⟨[.ref a], []⟩) R s := by
  intro k
  induction k with
  | zero =>
    intro j s hk hj K hR
    obtain rfl : j = n := by omega
    obtain ⟨isg, lim⟩ := G.gn _ _ K.kd
    obtain ⟨gs, hgs, go⟩ := K.go
    rw [Nat.sub_self] at go
    refine codeAny_builtin F.entry_all_loop ?_
    rw [Around.under_plainId F.plain_all_loop _]
    show wpAny _ A.in1 (pyNext (.ref a) >>= _) _ _ s
    refine wpAny_bind (wpAny_pyNext_genexpQ (P := fun m _ s1 => m = 0 ∧ Kf s1) G.hh lim hroom isg hgs (go _ (slp_set rfl)) (fun v s1 gs2 _ hy => ?_) (fun s1 kf h2 keep => ?_))
    · obtain ⟨_, _, no⟩ := hy
      exact False.elim (no s1 ⟨rfl, rfl, fun h => h, Nat.le_refl _⟩)
    · refine wpAny_bind (wpAny_rule (wpAny_pure ?_))
      have h := hR _ (z1 s1 h2 kf.2 keep)
      rw [List.drop_of_length_le (by simp)] at h
      exact h
  | succ k ih =>
    intro j s hk hj K hR
    have hlt : j < n := by omega
    obtain ⟨isg, lim⟩ := G.gn _ _ K.kd
    obtain ⟨gs, hgs, go⟩ := K.go
    have hd : (List.range n).drop j = j :: (List.range n).drop (j + 1) := by
      rw [List.drop_eq_getElem_cons (by simpa using hlt)]
      simp
    have e1 : n - j = (n - (j + 1)) + 1 := by omega
    rw [e1] at go
    refine codeAny_builtin F.entry_all_loop ?_
    rw [Around.under_plainId F.plain_all_loop _]
    show wpAny _ A.in1 (pyNext (.ref a) >>= _) _ _ s
    refine wpAny_bind (wpAny_pyNext_genexpQ (P := fun m _ s1 => m = 0 ∧ Kf s1) G.hh lim hroom isg hgs (go _ (slp_set rfl)) (fun v s1 gs2 hb hy => ?_) (fun s1 kf h2 keep => ?_))
    · obtain ⟨ev, kd1, on⟩ := hy
      have e2 : n - 1 - (n - (j + 1) + 1 - 1) = j := by omega
      have e3 : n - (n - (j + 1) + 1 - 1) = j + 1 := by omega
      rw [e2] at ev
      rw [e3] at kd1
      subst ev
      have hsz := G.sz _ _ kd1
      have kd2 : Kd (j + 1) (s1.setGen g gs2) := G.slp _ _ _ kd1 (slp_set hb)
      have at2 : (s1.setGen g gs2).gens[g]? = some gs2 := by
        show (s1.gens.setIfInBounds g gs2)[g]? = some gs2
        rw [Array.getElem?_setIfInBounds_self_of_lt hsz]
      refine wpAny_bind (wpAny_holding (wpAny_truthy_bool (wpAny_bind (wpAny_letGo ?_))))
      cases hp : pb j with
      | true =>
        simp only [if_true]
        refine wpAny_pure ⟨plainId_quiet F.plain_all_loop _, ih (j + 1) _ (by omega) hlt ⟨kd2, gs2, at2, fun s2 sl => on s2 ((slp_set hb).trans sl)⟩ fun s2 kz => ?_⟩
        have h := hR s2 kz
        rw [hd, List.all_cons, hp, Bool.true_and] at h
        exact h
      | false =>
        simp only [Bool.false_eq_true, if_false]
        refine wpAny_bind (wpAny_rule (wpAny_pure ?_))
        have h := hR _ (z2 _ _ kd2)
        rw [hd, List.all_cons, hp, Bool.false_and] at h
        exact h
    · exact absurd kf.1 (Nat.succ_ne_zero _)
theorem seg_start {A : Around} {elt iter : Expr} {tg : Expr} {scope : Scope} {pos : Pos} {I : Addr} {cenv : Env} {n : Nat} {pb : Nat → Bool} {a : Addr} {g : Nat} {Kd : Nat → Shared → Prop} {Kf : Shared → Prop}
    (G : Gw prog w A elt iter tg scope pos I cenv n pb a g Kd Kf) (hself : ∀ (A' : Around) (s : Shared) (Q : Value → Shared → Prop) (E : Value → Shared → Prop), Kd 0 s → Q (.ref I) s → wpAny (model prog w) A' (pyIter (.ref I)) Q E s) (s0 s : Shared) (kd : Kd 0 s) :
    Seg (model prog w) A (Rp Kf) (Yp n pb Kd) n s0 (.compStart (.GeneratorExp elt [⟨tg, iter, [], 0⟩] scope pos) 0 (.ref I) .none cenv)
      ((model prog w).den (.compStart (.GeneratorExp elt [⟨tg, iter, [], 0⟩] scope pos) 0 (.ref I) .none cenv)) [] s := by
  have loop := seg_walk G n 0 s0 s (Nat.sub_zero _) (Nat.zero_le _) kd
  rw [Nat.sub_zero] at loop
  show Seg _ A _ _ _ s0 _ ((compStart _ 0 (.ref I) .none cenv).onRaise (leaving cenv)) [] s
  unfold compStart
  rw [Sem.onRaise_eq_wrap]
  show Seg _ A _ _ _ s0 _ ((ask >>= _).wrap _ _ _ _) [] s
  refine seg_bind_wrap (wpAny_askSetting ?_)
  split
  · exact seg_again rfl loop
  · first
      | exact seg_bind_wrap (wpAny_rule (seg_bind_wrap (wpAny_standAt (seg_bind_wrap (hself _ s _ _ kd (seg_again rfl loop))))))
      | (refine seg_bind_wrap (wpAny_rule ?_); show Seg _ A _ _ _ s0 _ ((standAt iter.pos >>= _).wrap _ _ _ _) [] s; exact seg_bind_wrap (wpAny_standAt (seg_bind_wrap (hself _ s _ _ kd (seg_again rfl loop)))))
/-- all(the generator at a) -/
theorem call_allG {A : Around} {E : Value → Shared → Prop} {elt iter : Expr} {tg : Expr} {scope : Scope} {pos : Pos} {I : Addr} {cenv : Env} {n : Nat} {pb : Nat → Bool} {a : Addr} {g : Nat} {Kd : Nat → Shared → Prop} {Kf Kz : Shared → Prop} {Q : Value → Shared → Prop} {s : Shared}
    (G : Gw prog w A.in1.in1 elt iter tg scope pos I cenv n pb a g Kd Kf) (hself : ∀ (A' : Around) (s : Shared) (Q : Value → Shared → Prop) (E : Value → Shared → Prop), Kd 0 s → Q (.ref I) s → wpAny (model prog w) A' (pyIter (.ref I)) Q E s)
    (hroom : A.depth < recursionLimit) (z1 : ∀ (s : Shared) h2, Kf s → (∀ b o, s.heap.get? b = some o → h2.get? b = some o) → Kz { s.setGen g .finished with heap := h2 }) (z2 : ∀ j s, Kd j s → Kz s)
    (kd : Kd 0 s) (hgs : s.gens[g]? = some (.fresh (.compStart (.GeneratorExp elt [⟨tg, iter, [], 0⟩] scope pos) 0 (.ref I) .none cenv))) (hQ : ∀ s2, Kz s2 → Q (.bool ((List.range n).all pb)) s2) :
    wpAny (model prog w) A (call (.builtin "all") [.ref a]) Q E s := by
  refine call_function_tree F.kind_all F.plain_all F.entry_all (F.args_all1 _) ?_
  unfold Builtin.«all»
  refine wpAny_bind (m := oneArg "all" _) (wpAny_pure (wpAny_bind (wpAny_pyIter_gen (G.gn _ _ kd).1 ?_)))
  refine wpAny_pure ⟨plainId_quiet F.plain_all_loop _, all_loop G hroom z1 z2 n 0 s (Nat.sub_zero _) (Nat.zero_le _) ⟨kd, _, hgs, fun s2 sl => ⟨rfl, ?_⟩⟩ fun s2 kz => ?_⟩
  · rw [Nat.sub_zero]
    exact seg_start G hself s2 s2 (G.slp _ _ _ kd sl)
  · rw [List.drop_zero]
    exact hQ s2 kz
end
end Gx
set_option Elab.async false
set_option linter.all false
set_option maxRecDepth 100000
set_option maxHeartbeats 4000000
namespace Gx
open PySem PySem.Spec PyProof.Rows L2
/-- within the generator's frame: what was tracked where it was made is H, the state s -/
abbrev gcx (X : Cx) (s : Shared) (H : Hp) (A' : Around) (cenv : Env) (fp : List Addr) : Cx :=
  { X with A := A', s_0 := s, H_0 := H, env := cenv, outer := X.stack, stack := cenv :: X.stack, ex := fp, fn := fun _ => false, calm := true, pn := [], xe := fun _ _ => False }
/-- the names of the generator's own scope -/
structure GenN (N : List Str) (sc scope : Scope) (own : List (Str × Nat)) : Prop where
  kind : scope.kind = .function
  co : scope.isCoroutine = false
  cell : ∀ y ∈ scope.names, y.2 ≠ .cell
  dot : scope.names.lookup (".0" : Str) = some NameKind.local
  uniq : ∀ y ∈ scope.names, scope.names.lookup y.1 = some y.2
  ix : ∀ p ∈ own, N[p.2]? = some p.1
  free : ∀ y ∈ scope.names, y.2 = .free → sc.names.lookup y.1 = some .cell ∨ sc.names.lookup y.1 = some .free
  own : ∀ y ∈ scope.names, y.2 = .local → y.1 ∈ own.map (·.1) ∨ y.1 ∉ N
abbrev genv (X : Cx) (scope : Scope) (C : Addr) (code : Value) : Env := genEnv scope (cloFrom X.env.cells scope.names []) C code builtinsNs X.env
abbrev gob (g : Nat) (n q : Str) (t1 t2 : Tok) : Obj := { cls := .type "generator", data := .fields #[.int g 0, .str n t1, .str q t2] }
section
variable {X : Cx} {pins : List (Addr × Obj)} {σ : L2.St} {H : Hp} {s : Shared}
theorem gcx_start {scope : Scope} {own : List (Str × Nat)} {fp : List Addr} {A' : Around} {code : Value} {it : Value} {h' : Heap} {gs : GenState} {o : Obj} {tk : Nat} (I : Inv X pins σ H s) (ok : GenN X.N X.env.scope scope own) (hN : X.N.Nodup) (hfp : ∀ b ∈ fp, FpOk X pins H b ∧ b < s.heap.objs.size)
    (hA : A'.handled = none) (hF : A'.frames = some (genv X scope s.heap.objs.size code :: X.stack)) (hb : gs.bare = true) (hod : ∀ v, o.data ≠ .cell v) (hof : o.isFreed = false)
    (ns : h'.Ns s.heap.objs.size (fun y => if y = ".0" then some it else none)) (sb : Heap.SameBut s.heap.objs.size (s.heap.push { cls := .type "frame", data := .dict #[] }) h') :
    Inv (gcx X s H A' (genv X scope s.heap.objs.size code) fp) [(h'.objs.size, o)] (wipe σ (own.map (·.2))) H { s with gens := s.gens.push gs, toks := tk, heap := h'.push o } := by
  have hsz : h'.objs.size = s.heap.objs.size + 1 := by rw [sb.1, Heap.size_push]
  have kp : ∀ b u, s.heap.get? b = some u → (h'.push o).get? b = some u := fun b u e => Heap.get?_push_of_some _ (sb.extBut b u (Nat.ne_of_lt (Heap.lt_size e)) (Heap.get?_push_of_some _ e))
  have hfree : ∀ y ∈ scope.names, y.2 = .free → ∃ c, X.env.cells.lookup y.1 = some c := fun y hy e => by
    rcases ok.free y hy e with k | k
    · exact I.ok.has _ (.inl k)
    · exact I.ok.has _ (.inr k)
  have cm : ∀ {y c}, (y, c) ∈ cloFrom X.env.cells scope.names [] → X.env.cells.lookup y = some c ∧ c < s.heap.objs.size := fun {y c} hm => by
    rcases cloFrom_mem hm with hm | ⟨h1, rfl⟩
    · cases hm
    · obtain ⟨c, hc⟩ := hfree _ h1 rfl
      rw [hc]
      obtain ⟨w, z⟩ := I.cell _ _ hc
      exact ⟨rfl, z.lt⟩
  have cl : ∀ {y c}, (genv X scope s.heap.objs.size code).cells.lookup y = some c → X.env.cells.lookup y = some c ∧ c < s.heap.objs.size := fun {y c} e => cm (PySem.mem_of_lookup e)
  have look : ∀ {y}, scope.names.lookup y = some .free → ∃ c, (genv X scope s.heap.objs.size code).cells.lookup y = some c ∧ X.env.cells.lookup y = some c := fun {y} hl => by
    obtain ⟨c, e⟩ := mem_lookup (cloFrom_has (cells := X.env.cells) (acc := []) (PySem.mem_of_lookup hl))
    exact ⟨c, e, (cl e).1⟩
  have okG : (gcx X s H A' (genv X scope s.heap.objs.size code) fp).Ok := by
    refine ⟨I.ok.mod, ok.kind, I.ok.glob, rfl, Nat.le_refl _, fun y z c e1 e2 => I.ok.inj y z c (cl e1).1 (cl e2).1, fun y hy => ?_, fun y c z e => ?_, fun _ => hA, hF, .inr ⟨rfl, rfl⟩, fun b hb => ⟨Nat.ne_of_lt (hfp b hb).2, fun y c e z => (hfp b hb).1.2.2.2.2.1 y c (cl e).1 z⟩, I.bs, Nat.le_trans I.ok.bsz I.sz, fun b o e hb => ?_, fun b hb z => ?_, I.stack, I.stkFree⟩
    · have hy' : scope.names.lookup y = some .cell ∨ scope.names.lookup y = some .free := hy
      rcases hy' with hy' | hy'
      · exact absurd rfl (ok.cell _ (PySem.mem_of_lookup hy'))
      · obtain ⟨c, h1, _⟩ := look hy'
        exact ⟨c, h1⟩
    · exact absurd (show false = true from z) Bool.false_ne_true
    · rcases (hfp b hb).1.2.2.2.1 with z | z
      · exact I.ok.noex b o e z
      · exact absurd (Nat.lt_of_lt_of_le (Heap.lt_size e) (Nat.le_trans I.ok.bsz z)) (Nat.lt_irrefl _)
    · rcases List.mem_cons.mp (I.stkSub b z) with z | z
      · exact (hfp b hb).1.2.1 z
      · exact (hfp b hb).1.2.2.1 z
  refine ⟨okG, rfl, I.bare.push hb, Un.kept kp, ⟨_, ns.push o, fun i y av e1 e2 e3 => ?_⟩, fun y c e => ?_, I.hok.fresh (Nat.le_refl _), fun y c e => I.freeC y c (cl e).1, fun p hp => ?_, I.hok.kept kp, by rw [wipe_length]; exact I.len⟩
  · obtain ⟨e2, hne⟩ := wipe_some e2
    have e1' : X.N[i]? = some y := e1
    have e3' : scope.names.lookup y = some .local ∨ scope.names.lookup y = some .cell ∨ scope.names.lookup y = some .free := e3
    rcases e3' with e3' | e3' | e3'
    · exfalso
      rcases ok.own _ (PySem.mem_of_lookup e3') rfl with h | h
      · obtain ⟨p, hp, hpy⟩ := List.mem_map.mp h
        have e4 := ok.ix p hp
        have hpy' : p.1 = y := hpy
        rw [hpy'] at e4
        exact hne (List.mem_map.mpr ⟨p, hp, nodup_ix hN e4 e1'⟩)
      · exact h (List.mem_of_getElem? e1')
    · exact absurd rfl (ok.cell _ (PySem.mem_of_lookup e3'))
    · obtain ⟨m, hn, hl⟩ := I.loc
      have hv : Vis X.env.scope y := (ok.free _ (PySem.mem_of_lookup e3') rfl).elim (fun k => .inr (.inl k)) (fun k => .inr (.inr k))
      obtain ⟨w, r, q⟩ := hl i y av e1' e2 hv
      obtain ⟨c, h1, h2⟩ := look e3'
      refine ⟨w, r, .inr ⟨.inr e3', c, h1, ?_⟩⟩
      rcases q with ⟨k, _⟩ | ⟨_, c', e', z⟩
      · have k : X.env.scope.names.lookup y = some .local := k
        rcases ok.free _ (PySem.mem_of_lookup e3') rfl with k' | k' <;> rw [show X.env.scope.names.lookup y = _ from k'] at k <;> cases k
      · rw [h2] at e'
        cases e'
        exact z.keeps kp
  · obtain ⟨w, z⟩ := I.cell y c (cl e).1
    exact ⟨w, z.keeps kp⟩
  · have e : p = (h'.objs.size, o) := by simpa using hp
    subst e
    refine ⟨Heap.get?_push_size _ hof, I.hok.fresh (by show s.heap.objs.size ≤ h'.objs.size; omega), ?_, ?_, hod⟩
    · show h'.objs.size ≠ s.heap.objs.size
      omega
    · intro hb
      obtain ⟨_, ob, ho, _⟩ := I.stack.mem hb
      have := Heap.lt_size ho
      have h9 : (h'.objs.size : Nat) < s.heap.objs.size := this
      omega
theorem inv_slp {s2 : Shared} (I : Inv X pins σ H s) (sl : Slp s s2) : Inv X pins σ H s2 := by
  obtain ⟨h1, h2, h3, _⟩ := sl
  exact ⟨I.ok, h2.trans I.os, h3 I.bare, by rw [h1]; exact I.base, by rw [h1]; exact I.loc, by rw [h1]; exact I.cell, I.free, I.freeC, by rw [h1]; exact I.pin, by rw [h1]; exact I.hok, I.len⟩
end
end Gx
set_option Elab.async false
set_option linter.all false
set_option maxRecDepth 100000
set_option maxHeartbeats 4000000
namespace Gx
open PySem PySem.Spec PyProof.Rows L2
/-- all over a generator whose element may call: n turns at most, W the word of what is tracked at each; the def's own table (at P) may grow at the start -/
def tAllG (P : Addr) (own : List (Str × Nat)) (wi : TI) (gt : TG) (te : TE) : TE := fun σ H Q => wi σ H fun J H1 => GxR.TabG H1 P ∧ ∃ (n : Nat) (pb : Nat → Bool) (W : Nat → L2.St → Hp → Prop),
  (∀ H2, GxR.Tabbed P H1 H2 → W 0 (wipe σ (own.map (·.2))) H2) ∧ (∀ j σ' H', j < n → W j σ' H' → J.go j H' ∧ ∀ x H2, J.yld j H' x H2 → gt x σ' H2 fun σ3 H3 => te σ3 H3 fun v H4 => v = .bl (pb j) ∧ W (j + 1) σ3 H4) ∧
  (∀ σ' H', W n σ' H' → J.stop n H') ∧ ∀ j σ' H', W j σ' H' → Q (.bl ((List.range n).all pb)) H'
theorem thnG {α : Type} {M : Model} {A : Around} {s : Shared} {t : Sem α} {Q Q' : α → Shared → Prop} {n : Nat} (hn : n ≤ s.gens.size) (h : wpAny M A t Q (fun _ _ => False) s) (hQ : ∀ a s', n ≤ s'.gens.size → Q a s' → Q' a s') :
    wpAny M A t Q' (fun _ _ => False) s := GenW.wpAny_gsz hn (wpAny_mono h (fun a s' q g => hQ a s' g q) fun _ _ e => e.elim)
theorem room_gen {k : Nat} {A : Around} {elt tg iter : Expr} {scope : Scope} {pos : Pos} {it : Value} {cenv : Env} (r : Room (k + 1) A) :
    Room k (A.in1.in1.over (.compLoop (.GeneratorExp elt [⟨tg, iter, [], 0⟩] scope pos) 0 it .none cenv) []) := by
  refine ⟨r.hd, ?_, ?_⟩
  · have := r.dp
    show A.depth + 0 + 1 + 3 * k + 5 < _
    omega
  · have := r.un
    show A.units + 1 + 1 + 0 + 3 * 1 + 16 * k + 200 < _
    omega
section
variable {X : Cx}
theorem pe_allG {c P : Addr} {elt iter tg : Expr} {p pos gpos : Pos} {scope : Scope} {own : List (Str × Nat)} {wi : TI} {gt : TG} {te : TE} {k : Nat}
    (hr : Room (k + 1) X.A) (hg : Gl X "all") (hm : X.mg "all" = none) (hb : bootBuiltins "all" = some (.builtin "all")) (TB : GxR.TabB X.base X.mg c P) (hcode : X.env.code = .ref c) (S : GenN X.N X.env.scope scope own) (hN : X.N.Nodup) (hi : PI X tg iter wi)
    (ht : ∀ (C : Addr) (code : Value) (s : Shared) (H : Hp) (A' : Around) (fp : List Addr), PG (gcx X s H A' (genv X scope C code) fp) tg gt)
    (hel : ∀ (C : Addr) (code : Value) (s : Shared) (H : Hp) (A' : Around) (fp : List Addr), Room k A' → PE (gcx X s H A' (genv X scope C code) fp) elt te)
    (hs : ∀ v, genFold iter X.env v = pure v)
    (he : starEach [.GeneratorExp elt [⟨tg, iter, [], 0⟩] scope gpos] X.env = (false, eval (.GeneratorExp elt [⟨tg, iter, [], 0⟩] scope gpos) X.env) :: starEach [] X.env := by rfl) :
    PE X (.Call (.Name "all" p) [.GeneratorExp elt [⟨tg, iter, [], 0⟩] scope gpos] [] pos) (tAllG P own wi gt te) := by
  refine ⟨fun pins s σ H Q I h => ?_⟩
  refine wpAny_Call_Name_kw (ld_blt I hg hm hb ?_)
  refine PyProof.Rows.callWith_builtin1 ?_ he (by rfl)
  rw [he]
  show wpAny _ _ (spliced ((false, eval (.GeneratorExp elt [⟨tg, iter, [], 0⟩] scope gpos) X.env) :: backTo pos (starEach [] X.env))) _ _ s
  have hfree : ∀ y ∈ scope.names, y.2 = .free → ∃ c, X.env.cells.lookup y.1 = some c := fun y hy e => by
    rcases S.free y hy e with z | z
    · exact I.ok.has _ (.inl z)
    · exact I.ok.has _ (.inr z)
  refine Calls.spliced_cons (wpAny_GeneratorExp_make S.co (closure_ok hfree) S.cell S.dot S.kind hr.depth ?_ hs)
  refine thn (hi.run pins s σ H _ I h) fun xv s1 h1 => thn h1 fun itv s2 h2 => ?_
  obtain ⟨it, fp, tn, J, H2, rfl, I2, T, st2, f2, ⟨ps, hP, ht0⟩, n, pb, W, w0, turn, stop, fin⟩ := h2
  refine ⟨I2.nolimit, ?_⟩
  have hPs : s2.heap.get? P = some { cls := .none, data := .fields ps } := I2.hok P _ hP
  have nP : ∀ b ∈ fp, b ≠ P := fun b hb e => by
    have := (f2 b hb).1
    rw [e, hP] at this
    cases this
  have cd : PySem.W.CodeHd s2.heap c P := TB.code.keeps I2.bk
  have cont : ∀ (code : Value) (h3 : Heap) (tk : Nat) (ps' : Array Value), Heap.ExtBut P s2.heap h3 → s2.heap.objs.size ≤ h3.objs.size → h3.get? P = some { cls := .none, data := .fields ps' } → (∃ more, ps' = ps ++ more) → TriplesOk ps'.toList →
      wpAny (model X.prog X.w) X.A (builtinsFor X.env.globals X.env.builtins) (fun bi s4 => ∀ h', h'.Ns s4.heap.objs.size (fun y => if y = ".0" then some (.ref it) else none) → Heap.SameBut s4.heap.objs.size (s4.heap.push { cls := .type "frame", data := .dict #[] }) h' →
        wpAny (model X.prog X.w) X.A (spliced (backTo pos (starEach [] X.env))) (fun us s5 => wpAny (model X.prog X.w) X.A (call (.builtin "all") (.ref h'.objs.size :: us)) (EP X pins σ Q) X.xe s5) X.xe { s4 with
            gens := s4.gens.push (.fresh (.compStart (.GeneratorExp elt [⟨tg, iter, [], 0⟩] scope gpos) 0 (.ref it) .none (genEnv scope (cloFrom X.env.cells scope.names []) s4.heap.objs.size code bi X.env))),
            toks := s4.toks + 1 + 1 + 1,
            heap := h'.push { cls := .type "generator", data := .fields #[.int s4.gens.size 0, .str "<genexpr>" (s4.toks + 1), .str (X.env.qual ++ "<genexpr>") (s4.toks + 1 + 1)] } }) X.xe { s2 with heap := h3, toks := tk } := by
    intro code h3 tk ps' hx hsz hP3 hmore ht3
    obtain ⟨bm, ob, e1, e2, e3, e4, e5, e6, e7, e8⟩ := TB.bm
    obtain ⟨more, em⟩ := hmore
    have keep3 : ∀ b u, b ≠ P → s2.heap.get? b = some u → h3.get? b = some u := fun b u hb e => hx b u hb e
    have I3 : Inv X pins σ (upd H2 P (.tbl (ps ++ more))) { s2 with heap := h3, toks := tk } := by
      have z := GxR.inv_tab (more := more) (h' := h3) (g' := s2.gens) (d' := s2.drawn) (t' := tk) I2 hP keep3 (by rw [← em]; exact hP3) I2.bare
      exact z
    refine wpAny_builtinsFor (m := X.mg) (by rw [I2.ok.glob]; exact (I2.mod.glob.keeps I2.bk).extBut hx TB.gP) e1 e2 (keep3 _ _ e4 (I2.bk _ _ e5)) e6 e7 e8 ?_
    intro h' ns sb
    refine Calls.spliced_nil ?_
    have hfp : ∀ b ∈ fp, FpOk X pins (upd H2 P (.tbl (ps ++ more))) b ∧ b < h3.objs.size := fun b hb => by
      obtain ⟨ob, e, _⟩ := T.obj _ _ st2 b hb
      refine ⟨⟨by rw [upd_ne (nP b hb)]; exact (f2 b hb).1, (f2 b hb).2⟩, Nat.lt_of_lt_of_le (Heap.lt_size e) hsz⟩
    have hF : (X.A.in1.in1.over (.compLoop (.GeneratorExp elt [⟨tg, iter, [], 0⟩] scope gpos) 0 (.ref it) .none (genv X scope h3.objs.size code)) []).frames = some (genv X scope h3.objs.size code :: X.stack) := by
      show pushEnvs [genv X scope h3.objs.size code] (pushEnvs [] X.A.frames) = _
      rw [I2.ok.frames]
      rfl
    have J0 := gcx_start (s := { s2 with heap := h3, toks := tk }) (A' := X.A.in1.in1.over (.compLoop (.GeneratorExp elt [⟨tg, iter, [], 0⟩] scope gpos) 0 (.ref it) .none (genv X scope h3.objs.size code)) []) (code := code) (it := .ref it)
      (gs := .fresh (.compStart (.GeneratorExp elt [⟨tg, iter, [], 0⟩] scope gpos) 0 (.ref it) .none (genv X scope h3.objs.size code)))
      (o := { cls := .type "generator", data := .fields #[.int s2.gens.size 0, .str "<genexpr>" (tk + 1), .str (X.env.qual ++ "<genexpr>") (tk + 1 + 1)] }) (tk := tk + 1 + 1 + 1) I3 S hN hfp hr.hd hF rfl (fun v z => by cases z) rfl ns sb
    have hsz' : h'.objs.size = h3.objs.size + 1 := by
      have z := sb.1
      rw [Heap.size_push] at z
      exact z
    have kp5 : ∀ b u, h3.get? b = some u → (h'.push { cls := .type "generator", data := .fields #[.int s2.gens.size 0, .str "<genexpr>" (tk + 1), .str (X.env.qual ++ "<genexpr>") (tk + 1 + 1)] }).get? b = some u := fun b u e => Heap.get?_push_of_some _ (sb.extBut b u (Nat.ne_of_lt (Heap.lt_size e)) (Heap.get?_push_of_some _ e))
    have st5 : tn 0 (h'.push { cls := .type "generator", data := .fields #[.int s2.gens.size 0, .str "<genexpr>" (tk + 1), .str (X.env.qual ++ "<genexpr>") (tk + 1 + 1)] }) := T.keep _ _ _ st2 fun b hb u e => kp5 b u (keep3 b u (nP b hb) e)
    generalize hgo : ({ cls := .type "generator", data := .fields #[.int s2.gens.size 0, .str "<genexpr>" (tk + 1), .str (X.env.qual ++ "<genexpr>") (tk + 1 + 1)] } : Obj) = go at J0 st5 ⊢
    generalize hA' : X.A.in1.in1.over (.compLoop (.GeneratorExp elt [⟨tg, iter, [], 0⟩] scope gpos) 0 (.ref it) .none (genv X scope h3.objs.size code)) [] = A' at J0
    have rA : Room k A' := by rw [← hA']; exact room_gen hr
    have stat : ∀ {H' : Hp}, (∀ b ∈ fp, H' b = none) → ∀ b ∈ fp, FpOk (gcx X { s2 with heap := h3, toks := tk } (upd H2 P (.tbl (ps ++ more))) A' (genv X scope h3.objs.size code) fp) [(h'.objs.size, go)] H' b := fun {H'} hn b hb => by
      refine ⟨hn b hb, (J0.ok.exf b hb).1, J0.ok.exfs b hb, .inl hb, (J0.ok.exf b hb).2, fun q hq => ?_⟩
      have e : q = (h'.objs.size, go) := by simpa using hq
      subst e
      have h9 : (b : Nat) < h3.objs.size := (hfp b hb).2
      intro e
      have e2 : (h'.objs.size : Nat) = b := e
      rw [hsz'] at e2
      exact Nat.not_lt_of_le (Nat.le_of_eq e2) (Nat.lt_succ_of_lt h9)
    let Kd : Nat → Shared → Prop := fun j s' => ∃ σ' H', Inv (gcx X { s2 with heap := h3, toks := tk } (upd H2 P (.tbl (ps ++ more))) A' (genv X scope h3.objs.size code) fp) [(h'.objs.size, go)] σ' H' s' ∧ W j σ' H' ∧ tn j s'.heap ∧ (∀ b ∈ fp, H' b = none) ∧ s2.gens.size + 1 ≤ s'.gens.size
    let Kf : Shared → Prop := fun s' => ∃ σ' H', Inv (gcx X { s2 with heap := h3, toks := tk } (upd H2 P (.tbl (ps ++ more))) A' (genv X scope h3.objs.size code) fp) [(h'.objs.size, go)] σ' H' s' ∧ W n σ' H'
    let Kz : Shared → Prop := fun s' => ∃ j σ' H', Inv X pins σ H' s' ∧ W j σ' H'
    have hch : ∀ b ∈ fp, (b ∈ X.ex ∨ X.s_0.heap.objs.size ≤ b) ∧ b ≠ X.env.locals ∧ (∀ x c, X.env.cells.lookup x = some c → c ≠ b) ∧ ∀ p ∈ X.pn ++ pins, p.1 ≠ b := fun b hb => ⟨(f2 b hb).2.2.2.1, (f2 b hb).2.1, (f2 b hb).2.2.2.2.1, (f2 b hb).2.2.2.2.2⟩
    have G : Gw X.prog X.w X.A.in1.in1 elt iter tg scope gpos it (genv X scope h3.objs.size code) n pb h'.objs.size s2.gens.size Kd Kf := by
      refine ⟨hr.hd, fun j s' hj kd => ?_, fun s' kd => ?_, fun j s' kd => ?_, fun j s' kd => ?_, fun j s' s'' kd sl => ?_, S.co⟩
      · obtain ⟨σ', H', Ig, wj, stj, frj, gz⟩ := kd
        obtain ⟨goj, step⟩ := turn j σ' H' hj wj
        rw [hA']
        refine thnG gz (T.item (gcx X { s2 with heap := h3, toks := tk } (upd H2 P (.tbl (ps ++ more))) A' (genv X scope h3.objs.size code) fp) rfl rfl rfl rfl j _ s' σ' H' (fun _ _ => False) Ig (stat frj) stj goj) fun r s4 g4 ⟨u, hu, h4⟩ => ⟨u, hu, ?_⟩
        refine thnG g4 h4 fun _ s5 g5 ⟨x, H5, I5, r5, y5, st5, fr5⟩ => ?_
        have I5' := I5.pinned (stat fr5) (T.obj _ _ st5)
        refine thnG g5 ((ht h3.objs.size code _ _ A' fp).run _ s5 σ' H5 x u _ I5' r5 (step x H5 y5)) fun _ s6 g6 ⟨σ6, H6, I6, q6⟩ => ?_
        refine thnG g6 ((hel h3.objs.size code _ _ A' fp rA).run _ s6 σ6 H6 _ I6 q6) fun y s7 g7 ⟨v, H7, I7, r7, ev, q7⟩ => ?_
        subst ev
        refine ⟨r7, σ6, H7, I7.unpinned, q7, T.keep _ _ _ st5 fun b hb o e => (I7.pin (b, o) (List.mem_append_right _ (List.mem_append_right _ (mem_pinsAt hb e)))).1, fun b hb => ?_, g7⟩
        obtain ⟨o, e, d⟩ := T.obj _ _ st5 b hb
        exact (I7.pin (b, o) (List.mem_append_right _ (List.mem_append_right _ (mem_pinsAt hb e)))).2.1
      · obtain ⟨σ', H', Ig, wj, stj, frj, gz⟩ := kd
        rw [hA']
        refine thn (T.done (gcx X { s2 with heap := h3, toks := tk } (upd H2 P (.tbl (ps ++ more))) A' (genv X scope h3.objs.size code) fp) rfl rfl rfl rfl n _ s' σ' H' (fun _ _ => False) Ig (stat frj) stj (stop σ' H' wj)) fun r s4 ⟨e, I4⟩ => ⟨e, σ', H', I4, wj⟩
      · obtain ⟨σ', H', Ig, _⟩ := kd
        have q := (Ig.pin (h'.objs.size, go) (by simp)).1
        rw [← hgo] at q
        exact ⟨⟨_, _, _, q, rfl, rfl, rfl⟩, Ig.nolimit⟩
      · obtain ⟨_, _, _, _, _, _, gz⟩ := kd
        omega
      · obtain ⟨σ', H', Ig, wj, stj, frj, gz⟩ := kd
        exact ⟨σ', H', inv_slp Ig sl, wj, by rw [sl.heap]; exact stj, frj, Nat.le_trans gz sl.size⟩
    have fr0 : ∀ b ∈ fp, upd H2 P (.tbl (ps ++ more)) b = none := fun b hb => (hfp b hb).1.1
    refine call_allG (Kz := Kz) G (fun A9 s9 Q9 E9 kd q => ?_) hr.depth (fun s9 h9 kf keep => ?_) (fun j s9 kd => ?_) ⟨_, _, J0, w0 _ ⟨⟨ps ++ more, upd_same, by rw [← em]; exact ht3⟩, fun b hb => upd_ne hb⟩, st5, fr0, by show _ ≤ (s2.gens.push _).size; rw [Array.size_push]; exact Nat.le_refl _⟩ ?_ fun s9 kz => ?_
    · obtain ⟨_, _, _, _, st9, _⟩ := kd
      exact T.self A9 0 s9 Q9 E9 st9 q
    · obtain ⟨σ', H', Ig, wj⟩ := kf
      exact ⟨n, σ', H', I3.call' (ch := fp) Ig.os (Ig.base.trans (Un.kept keep)) (Ig.hok.kept keep) (bare_set Ig.bare rfl) hch, wj⟩
    · obtain ⟨σ', H', Ig, wj, _⟩ := kd
      exact ⟨j, σ', H', I3.call' (ch := fp) Ig.os Ig.base Ig.hok Ig.bare hch, wj⟩
    · show (s2.gens.push _)[s2.gens.size]? = _
      exact Array.getElem?_push_size
    · obtain ⟨j, σ', H', I9, wj⟩ := kz
      exact ⟨.bl _, H', I9, rfl, fin j σ' H' wj⟩
  cases hf : codeAmong gpos ps.toList with
  | none =>
    refine wpAny_genexprCodeX hcode (cd.code hPs ht0) (cd.tab hPs) hf fun c' h' tk hx hge hlt hco' _ htab' _ => ?_
    obtain ⟨o1, vs, f1, tf, fl, tg, inF, tx, tt, op, _, _, _, _, _, _, _, _, _, htr, _⟩ := hco'
    exact cont _ h' tk _ hx (Nat.le_trans hge (Nat.le_of_lt hlt)) htab'.2 ⟨_, rfl⟩ htr
  | some cv =>
    refine wpAny_genexprCode_hit hcode (cd.code hPs ht0) hf ?_
    exact cont cv s2.heap s2.toks ps (Heap.ExtBut.refl _ _) (Nat.le_refl _) hPs ⟨#[], by simp⟩ ht0
end
end Gx
set_option Elab.async false
set_option linter.all false
set_option maxRecDepth 100000
set_option maxHeartbeats 4000000
/-! len(set(t)), t a tuple of texts, any number of them -/
namespace Sx
open PySem PySem.Spec PyProof.Rows L2
/-- how many are unlike -/
def ndr : List Str → Nat
  | [] => 0
  | x :: r => if x ∈ r then ndr r else ndr r + 1
theorem ndr_le : ∀ l : List Str, ndr l ≤ l.length
  | [] => Nat.le_refl _
  | x :: r => by
    have h := ndr_le r
    rw [ndr, List.length_cons]
    split <;> omega
theorem ndr_eq : ∀ l : List Str, ndr l = l.length ↔ l.Nodup
  | [] => by simp [ndr]
  | x :: r => by
    have h := ndr_le r
    have ih := ndr_eq r
    rw [ndr, List.length_cons, List.nodup_cons]
    by_cases hx : x ∈ r
    · rw [if_pos hx]
      exact ⟨fun e => by omega, fun e => absurd hx e.1⟩
    · rw [if_neg hx]
      exact ⟨fun e => ⟨hx, ih.mp (by omega)⟩, fun e => by rw [ih.mpr e.2]⟩
def nd (l : List Str) : Nat := ndr l.reverse
theorem nd_snoc (l : List Str) (x : Str) : nd (l ++ [x]) = if x ∈ l then nd l else nd l + 1 := by
  unfold nd
  rw [List.reverse_append]
  show ndr (x :: l.reverse) = _
  rw [ndr]
  simp
theorem nd_le (l : List Str) : nd l ≤ l.length := by
  have h := ndr_le l.reverse
  rw [List.length_reverse] at h
  exact h
theorem nd_eq (l : List Str) : nd l = l.length ↔ l.Nodup := by
  have h := ndr_eq l.reverse
  rw [List.length_reverse, (List.reverse_perm l).nodup_iff] at h
  exact h
section
variable {prog : Program} {w : World}
theorem fill {A : Around} {R : Result → Shared → Prop} {I : Addr} {fp wr : List Addr} {G : Array GenState → Array GenState → Prop} {n : Nat} {P : Nat → Value → Prop} {St : Nat → Shared → Prop}
    (walk : WalksS prog w A.in1 I fp wr G n P St) (a : Addr) (out : a ∉ fp) (xs : List Str) (len : xs.length = n) (few : n ≤ 1000) (item : ∀ i v, P i v → ∃ t, v = .str (xs.getD i Str.empty) t) :
    ∀ (k i : Nat) (s : Shared), n - i = k → i ≤ n → St i s → s.heap.SetOf (PySem.strKind prog w) a (fun z => decide (z ∈ xs.take i)) (nd (xs.take i)) →
      (∀ s', Moved (a :: wr) G s s' → s'.heap.SetOf (PySem.strKind prog w) a (fun z => decide (z ∈ xs)) (nd xs) → R (.ok (.ret .none)) s') →
      codeAny (model prog w) A (.builtin "set.update.loop" ⟨[.ref a, .ref I], []⟩) R s := by
  have away : a ∉ wr := fun z => out (walk.sub _ z)
  have more : ∀ b ∈ wr, b ∈ a :: wr := fun b hb => List.mem_cons_of_mem _ hb
  intro k
  induction k with
  | zero =>
    intro i s ek le st have_ want
    obtain rfl : i = n := by omega
    refine codeAny_builtin PyProof.Rows.F.entry_set_update_loop ?_
    rw [Around.under_plainId PyProof.Rows.F.plain_set_update_loop _]
    refine wpAny_bind (m := pyNext (.ref I)) (walk.done s _ _ st fun s' mv => ?_)
    rw [List.take_of_length_le (Nat.le_of_eq len)] at have_
    refine wpAny_pure (want s' (mv.mono more) ?_)
    obtain ⟨o, es, ep, t, ho, rest⟩ := have_
    exact ⟨o, es, ep, t, mv.heap a _ away ho, rest⟩
  | succ k ih =>
    intro i s ek le st have_ want
    have lt : i < n := by omega
    refine codeAny_builtin PyProof.Rows.F.entry_set_update_loop ?_
    rw [Around.under_plainId PyProof.Rows.F.plain_set_update_loop _]
    refine wpAny_bind (m := pyNext (.ref I)) (walk.item i s _ _ lt st fun v s' pv st' mv => ?_)
    obtain ⟨t, rfl⟩ := item i v pv
    have held : s'.heap.SetOf (PySem.strKind prog w) a (fun z => decide (z ∈ xs.take i)) (nd (xs.take i)) := by
      obtain ⟨o, es, ep, tb, ho, rest⟩ := have_
      exact ⟨o, es, ep, tb, mv.heap a _ away ho, rest⟩
    have few2 : nd (xs.take i) + 1 < scanBound := by
      have h1 := nd_le (xs.take i)
      have h2 : (xs.take i).length ≤ xs.length := by rw [List.length_take]; omega
      unfold scanBound
      omega
    refine wpAny_bind (m := holding [Value.str (xs.getD i Str.empty) t] (setAdd a (.str (xs.getD i Str.empty) t))) (wpAny_holding ?_)
    unfold setAdd
    refine wpAny_holding (wpAny_bind ((PySem.strKind prog w).pyHash (k := xs.getD i Str.empty) (strKind_is _ _ _ _) ?_))
    refine wpAny_setAddHashed_of (knd := PySem.strKind prog w) (s := { s' with toks := s'.toks + 1 }) (strKind_is _ _ _ _) rfl held few2 fun h' sb put => ?_
    have tk : xs.take (i + 1) = xs.take i ++ [xs.getD i Str.empty] := by
      rw [List.take_add_one, List.getD_eq_getElem?_getD, List.getElem?_eq_getElem (by omega)]
      rfl
    have put2 : h'.SetOf (PySem.strKind prog w) a (fun z => decide (z ∈ xs.take (i + 1))) (nd (xs.take (i + 1))) := by
      refine PyProof.Rows.SetOf_congr put (fun z => ?_) ?_
      · rw [tk]
        simp [List.mem_append]
      · rw [tk, nd_snoc]
        simp
    refine wpAny_pure ⟨plainId_quiet PyProof.Rows.F.plain_set_update_loop _, ih (i + 1) _ (by omega) lt (walk.frame _ s' _ _ st' (Nat.le_succ _) fun b hb o e => ?_) put2 fun s'' mv2 got => ?_⟩
    · rw [sb.2 b (fun z : b = a => out (by rw [← z]; exact hb))]
      exact e
    · refine want s'' (Moved.trans walk.gtrans ((mv.mono more).then_heap (Nat.le_succ _) fun b o hb e => ?_) mv2) got
      rw [sb.2 b (fun z : b = a => hb (by rw [z]; exact List.mem_cons_self))]
      exact e
end
section
variable {prog : Program} {w : World} {A : Around} {E : Value → Shared → Prop} {s : Shared}
abbrev eset (b : Bool) : Obj := { cls := .type "set", dict := none, data := .set #[] 0 (.fresh 0 0 b) }
set_option maxHeartbeats 6000000 in
theorem call_set_tup {l : Addr} {items : Array Value} {xs : List Str} {Q : Value → Shared → Prop} (hh : A.handled = none) (tup : s.heap.IsTuple l items) (are : PyProof.Rows.StrsAre items.toList xs) (few : xs.length ≤ 1000)
    (h : ∀ (h' : Heap) (tk : Nat), h'.SetOf (PySem.strKind prog w) s.heap.objs.size (fun z => decide (z ∈ xs)) (nd xs) → (∀ b o, b < s.heap.objs.size → s.heap.get? b = some o → h'.get? b = some o) → Q (.ref s.heap.objs.size) { s with heap := h', toks := tk }) :
    wpAny (model prog w) A (call (.type "set") [.ref l]) Q E s := by
  obtain ⟨c, tl, hmro⟩ := PySem.F.called_set.mro
  have hmade := PySem.F.called_set.made
  have hsub := PySem.F.called_set.sub
  refine wpAny_call (codeAny_of_tree (show wpAny _ _ (callAny (.type "set") _) _ _ _ from ?_))
  refine wpAny_pure ⟨Code.quiet_builtin _ (by decide +kernel), codeAny_builtin PySem.F.entry_type_call ?_⟩
  rw [Around.under_plain (weight_type_call_type "set" [.ref l] []) rfl]
  have f1 := PySem.F.called_set.notType
  have f2 := PySem.F.called_set.canCreate
  have f3 := PySem.F.typeCall_set_1 (.ref l)
  repeat (any_goals (first | assumption | wp_step))
  refine codeAny_mono (code_set_new_1 (.ref l) (E := E) (Q₁ := fun v s1 => ∃ b : Bool, v = .ref s.heap.objs.size ∧ s1 = { s with heap := s.heap.push (eset b) }) fun b => ⟨b, rfl, rfl⟩) fun r s1 hr => ?_
  cases r with
  | error e => exact hr
  | ok fl =>
    cases fl with
    | ret v =>
      obtain ⟨b, rfl, rfl⟩ := hr
      have at0 : (s.heap.push (eset b)).get? s.heap.objs.size = some (eset b) := Heap.get?_push_size _ rfl
      have ty0 : Shared.TypeIs { s with heap := s.heap.push (eset b) } (.ref s.heap.objs.size) "set" := ⟨_, at0, rfl⟩
      have f4 := PySem.F.called_set.init.lookup
      have f5 := PySem.F.called_set.init.bind (.ref s.heap.objs.size)
      repeat (any_goals (first | assumption | wp_step))
      refine codeAny_mono (codeAny_call_builtin (R := wants (fun r s2 => r = .none ∧ ∃ h' tk, s2 = { s with heap := h', toks := tk } ∧ h'.SetOf (PySem.strKind prog w) s.heap.objs.size (fun z => decide (z ∈ xs)) (nd xs) ∧ ∀ b o, b < s.heap.objs.size → s.heap.get? b = some o → h'.get? b = some o) E)
        PySem.F.called_set.init.plain PySem.F.entry_set_init (check_set_init_1 ty0 ?_)) fun r2 s2 hr2 => ?_
      · obtain ⟨ol, hol, hcl, nl, hdl⟩ := tup
        obtain ⟨ocls, odict, odata, oslots⟩ := ol
        simp only at hcl hdl
        subst hcl
        subst hdl
        have hol' : (s.heap.push (eset b)).get? l = some { cls := .type "tuple", dict := odict, data := .seq items nl, slots := oslots } := Heap.get?_push_of_some _ hol
        have g1 := PySem.F.sub_tuple_set
        have g2 := PySem.F.sub_tuple_frozenset
        have g3 : (Value.type "tuple" == Value.type "dict") = false := by decide
        have tup1 : (s.heap.push (eset b)).IsTuple l items := ⟨_, hol', rfl, nl, rfl⟩
        unfold Builtin.«set.__init__» noKeywords Builtin.Frozenset.updateFrom
        generalize hPI : pyIter = PI
        wp_walk
        subst hPI
        refine wpAny_pyIter_tuple tup1 (wpAny_bind (wpAny_runValue ?_))
        have lt0 : l < s.heap.objs.size := Heap.lt_size hol
        have hh3 : A.in1.in1.in1.handled = none := by simp [hh]
        have ne1 : l ≠ (s.heap.push (eset b)).objs.size := by
          rw [Heap.size_push]
          exact Nat.ne_of_lt (Nat.lt_succ_of_lt lt0)
        have out1 : s.heap.objs.size ∉ [(s.heap.push (eset b)).objs.size, l] := fun z => by
          rw [Heap.size_push] at z
          rcases List.mem_cons.mp z with z | z
          · exact Nat.ne_of_lt (Nat.lt_succ_self _) z
          · exact Nat.ne_of_gt lt0 (List.mem_singleton.mp z)
        have sz : xs.length = items.size := by rw [← StrsAre.len_eq are, Array.length_toList]
        refine fill ((Walks.tuple hh3 _ l ne1 items).toS) s.heap.objs.size out1 xs sz (by rw [← sz]; exact few) (fun i v hv => SS.strs_at are i v (by rw [Array.getElem?_toList]; exact hv)) (items.size - 0) 0 _ (by omega) (Nat.zero_le _)
          ⟨⟨_, Heap.get?_push_size _ rfl, rfl, rfl⟩, (tup1.push _)⟩ ?start ?fin
        case start =>
          have at1 : ((s.heap.push (eset b)).push { cls := .type "tuple_iterator", data := .fields #[.ref l, .int 0 0] }).get? s.heap.objs.size = some (eset b) := Heap.get?_push_of_some _ at0
          exact PyProof.Rows.SetOf_congr ((PyProof.Rows.setObjOf_fresh (knd := PySem.strKind prog w) b).setOf at1 (by unfold scanBound; omega)) (fun _ => by simp) rfl
        case fin =>
          intro s' mv got
          obtain ⟨h', g', d', tk', os'⟩ := s'
          have eg : g' = s.gens := mv.gens
          have ed : d' = s.drawn := mv.drawn
          have eo : os' = s.os := mv.os
          subst eg
          subst ed
          subst eo
          show wpAny _ _ _ _ _ _
          refine wpAny_pure ?_
          show wpAny _ _ (ret Value.none) _ _ _
          refine wpAny_pure ⟨rfl, h', tk', rfl, got, fun c o hc e => ?_⟩
          refine mv.heap c o (fun z => ?_) (Heap.get?_push_of_some _ (Heap.get?_push_of_some _ e))
          rcases List.mem_cons.mp z with z | z
          · exact Nat.ne_of_lt hc z
          · have z2 := List.mem_singleton.mp z
            rw [Heap.size_push] at z2
            exact Nat.ne_of_lt (Nat.lt_succ_of_lt hc) z2
      · cases r2 with
        | error e => exact hr2
        | ok fl2 =>
          cases fl2 with
          | ret r =>
            obtain ⟨rfl, h', tk, rfl, got, keep⟩ := hr2
            repeat (any_goals (first | assumption | wp_step))
            exact h _ _ got keep
          | _ => exact hr2.elim
    | _ => exact hr.elim
end
section
variable {X : Cx}
def tLenSetT (K : PySem.W.Frag) (ta : TE) : TE := fun σ H Q => ta σ H fun x H1 => ∃ (l : Addr) (xs : List Str), x = .ref l ∧ SqT K H1 l (xs.map V.str) ∧ xs.length ≤ 1000 ∧ Q (.int (nd xs)) H1
theorem pe_lenSetT {a : Expr} {ta : TE} {p p2 q pos : Pos} (hc : X.calm = true) (hg : Gl X "len") (hm : X.mg "len" = none) (hg2 : Gl X "set") (hm2 : X.mg "set" = none) (ha : PE X a ta)
    (na : starEach [a] X.env = (false, eval a X.env) :: starEach [] X.env := by rfl) : PE X (.Call (.Name "len" p) [.Call (.Name "set" p2) [a] [] q] [] pos) (tLenSetT X.K ta) := by
  refine ⟨fun pins s σ H Q I h => ?_⟩
  refine Call_ (ld_blt I hg hm boot_len (PyProof.Rows.callWith_builtin1 (PyProof.Rows.args_cons ?_ rfl) rfl rfl))
  refine Call_ (ld_blt I hg2 hm2 boot_set (PyProof.Rows.callWith_type1 (PyProof.Rows.args_cons (thn (ha.run pins s σ H _ I h) fun v s1 ⟨x, H1, I1, r1, q1⟩ => PyProof.Rows.args_nil ?_) na) na rfl))
  obtain ⟨l, xs, rfl, sq, few, q1⟩ := q1
  cases r1
  obtain ⟨its, r, pl, hz⟩ := I1.tuple sq
  refine call_set_tup (I1.ok.hd hc) pl (by simpa using strsAre_of r) few fun h' tk got keep => PyProof.Rows.args_nil ?_
  obtain ⟨o, es, ep, t, ho, hex, hd, _, _, _, hf, hn⟩ := got
  have I2 : Inv X pins σ H1 { s1 with heap := h', toks := tk } := I1.kept fun b o e => keep b o (Heap.lt_size e) e
  have few2 := nd_le xs
  exact call_len_set ho hex hd hf (by rw [hn]; omega) ⟨.int (nd xs), H1, I2.tok _, ⟨_, by rw [hn]⟩, q1⟩
end
end Sx
set_option Elab.async false
set_option linter.all false
set_option maxRecDepth 100000
set_option maxHeartbeats 4000000
/-! enumerate(t), t a tuple -/
namespace Ex
open PySem PySem.Spec PyProof.Rows L2
open AutoSeq1 (wpAny_loadPart')
abbrev eIt (l : Addr) : Obj := { cls := .type "tuple_iterator", data := .fields #[.ref l, .int 0 0] }
abbrev eEn (i : Addr) : Obj := { cls := .type "enumerate", data := .fields #[.none, .bool false, .ref i, rawInt 0, .none, .none] }
theorem made (l : Addr) (items : Array Value) (n : Nat) (dct : Option Addr) (sl : Array (Option Value)) :
    Meets (Builtin.«enumerate.__new__» ⟨[.type "enumerate", .ref l], []⟩) (fun _ R s => s.heap.get? l = some { cls := .type "tuple", dict := dct, data := .seq items n, slots := sl } ∧
      R (.ok (.ret (.ref (s.heap.push (eIt l)).objs.size))) { s with heap := (s.heap.push (eIt l)).push (eEn s.heap.objs.size) }) :=
  .of_wp fun prog w A R s h => by
    obtain ⟨hp, g, d, tk, os⟩ := s
    obtain ⟨hl, h⟩ := h
    have hsub := sub_enumerate
    have tup : Heap.IsTuple (Shared.heap ⟨hp, g, d, tk, os⟩) l items := ⟨_, hl, rfl, n, rfl⟩
    wp_walk using wpAny_loadPart' hl
    refine wpAny_stack_any fun st => wpAny_pure ?_
    split
    · rename_i c _ _ _ _ _
      cases (c == Value.type "enumerate") <;> (wp_walk using wpAny_loadPart' hl, wpAny_pyIter_tuple tup; exact ⟨_, rfl, h⟩)
    · wp_walk using wpAny_loadPart' hl, wpAny_pyIter_tuple tup
      exact ⟨_, rfl, h⟩
section
variable {prog : Program} {w : World} {A : Around} {E : Value → Shared → Prop} {s : Shared}
theorem call_enumT {l : Addr} {items : Array Value} {Q : Value → Shared → Prop} (tup : s.heap.IsTuple l items)
    (h : ∀ h', IsEnum h' (s.heap.objs.size + 1) s.heap.objs.size 0 .none → h'.IsTupleIter s.heap.objs.size l 0 → (∀ b o, s.heap.get? b = some o → h'.get? b = some o) → Q (.ref (s.heap.objs.size + 1)) { s with heap := h' }) :
    wpAny (model prog w) A (call (.type "enumerate") [.ref l]) Q E s := by
  obtain ⟨⟨c, dct, dt, sl⟩, hl, hc, n, hd⟩ := tup
  obtain rfl : c = .type "tuple" := hc
  obtain rfl : dt = .seq items n := hd
  refine callType_new F.called_enumerate (by decide) (F.typeCall_enumerate_1 _) (F.newCall_enumerate_1 _) (fun obj => F.args_object_init_2 obj _) F.entry_enumerate_new (made l items n dct sl) ⟨hl, ?_⟩
  have sz : (s.heap.push (eIt l)).objs.size = s.heap.objs.size + 1 := Heap.size_push ..
  show _ ∧ _
  rw [sz]
  have en : IsEnum ((s.heap.push (eIt l)).push (eEn s.heap.objs.size)) (s.heap.objs.size + 1) s.heap.objs.size 0 .none := by
    have z := Heap.get?_push_size (s.heap.push (eIt l)) (o := eEn s.heap.objs.size) rfl
    rw [sz] at z
    exact z
  exact ⟨⟨_, en, rfl⟩, h _ en ⟨_, Heap.get?_push_of_some _ (Heap.get?_push_size _ rfl), rfl, rfl⟩ fun b o x => Heap.get?_push_of_some _ (Heap.get?_push_of_some _ x)⟩
end
/-- the tuple at a, each item in a new pair -/
def Itet (K : PySem.W.Frag) (a : Addr) : It :=
  ⟨fun i H => ∃ (xs : List V) (x : V), SqT K H a xs ∧ xs[i]? = some x, fun i H v H' => ∃ T x, v = .ref T ∧ H T = none ∧ H' = upd H T (.tup [.int (i : Nat), x]) ∧ ∀ xs, SqT K H a xs → xs[i]? = some x, fun i H => ∃ xs : List V, SqT K H a xs ∧ xs.length ≤ i⟩
theorem turn_enumT {P : Program} {w : World} {K : PySem.W.Frag} {elts : List Expr} {kk : Nat} {tpos : Pos} (a e it : Addr) :
    Turn P w K (.Tuple elts kk tpos) (Itet K a) [e, it] e (fun i h => (∃ old, IsEnum h e it ((i : Nat) : Int) old) ∧ h.IsTupleIter it a i ∧ e ≠ it ∧ e ≠ a ∧ a ≠ it) where
  mem := by simp
  obj := fun i h st b hb => by
    obtain ⟨⟨old, he⟩, ⟨o, ho, hc, hd⟩, _⟩ := st
    rcases List.mem_cons.mp hb with z | z
    · rw [z]
      exact ⟨_, he, fun v q => nomatch q⟩
    · rw [List.mem_singleton.mp z]
      exact ⟨o, ho, fun v q => by rw [hd] at q; cases q⟩
  keep := fun i h h' st k => let ⟨⟨old, he⟩, hi, hne⟩ := st; ⟨⟨old, k e (by simp) _ he⟩, hi.at fun o q => k it (by simp) o q, hne⟩
  item := by
    intro X hP hw hK hc i pins s σ H E I hf st hg
    subst hP hw hK
    obtain ⟨⟨old, he⟩, hit, hne, hea, hai⟩ := st
    obtain ⟨xs, x, hq, hx⟩ := hg
    obtain ⟨its, rv, p, hz⟩ := I.tuple hq
    obtain ⟨u, hu, ru⟩ := rv.get hx
    have lt1 : e < s.heap.objs.size := Heap.lt_size he
    have lt2 : it < s.heap.objs.size := by
      obtain ⟨_, q, _⟩ := hit
      exact Heap.lt_size q
    have hi : i < its.toArray.size := by
      rw [List.size_toArray, ← rv.length]
      exact (List.getElem?_eq_some_iff.mp hx).1
    refine wpAny_pyNext_enum_itemD (Draws.tuple (A := X.A.in1) (I.ok.hd hc) it a hai its.toArray) he ⟨hit, p⟩ hi hne (by simp [hne, hea]) fun u' h' tk hu' ho hst' hT hsz hk => ?_
    have eu : u' = u := by
      have z : its[i]? = some u' := by simpa using hu'
      rw [hu] at z
      exact (Option.some.inj z).symm
    subst eu
    refine ⟨_, rfl, wpAny_letOwnedTupleGo_enum (s := { s with heap := h', toks := tk + 1 }) ho fun h'' he' sb => ?_⟩
    have hT2 : h''.get? s.heap.objs.size = some { cls := .type "tuple", data := .seq #[.int i tk, u'] } := (sb.2 _ (Nat.ne_of_gt lt1)).trans hT
    have new : ObjOk X.prog X.w (upd H s.heap.objs.size (.tup [.int (i : Nat), x])) h'' s.heap.objs.size (.tup [.int (i : Nat), x]) :=
      ⟨by show 2 ≤ sizeLine; decide, [.int i tk, u'], .cons ⟨_, rfl⟩ (.cons ru .nil), ⟨_, hT2, rfl, _, rfl⟩⟩
    have I1 : Inv X pins σ (upd H s.heap.objs.size (.tup [.int (i : Nat), x])) { s with heap := h'', toks := tk + 1 } :=
      I.turnedNew (ch := [e, it]) (fun b ob hb q => (sb.2 b (fun z => hb (by simp [z]))).trans (hk b ob (fun z => hb (by simp [z])) (fun z => hb (by simp [z])) q)) hf (Nat.le_refl _) new
    refine ⟨.ref s.heap.objs.size, _, I1, rfl, ⟨_, x, rfl, I.hok.fresh (Nat.le_refl _), rfl, fun ys hy => by rw [I.tuple_inj hy hq]; exact hx⟩, ⟨⟨u', ?_⟩, hst'.1.at fun o q => (sb.2 it (Ne.symm hne)).trans q, hne, hea, hai⟩, fun b hb => ?_⟩
    · have e1 : ((i + 1 : Nat) : Int) = (i : Int) + 1 := by omega
      rw [e1]
      exact he'
    · have hb' : b < s.heap.objs.size := by
        rcases List.mem_cons.mp hb with z | z
        · rw [z]
          exact lt1
        · rw [List.mem_singleton.mp z]
          exact lt2
      rw [upd_ne (Nat.ne_of_lt hb')]
      exact (hf b hb).1
  done := by
    intro X hP hw hK hc i pins s σ H E I hf st hg
    subst hP hw hK
    obtain ⟨⟨old, he⟩, hit, hne, hea, hai⟩ := st
    obtain ⟨xs, hq, hx⟩ := hg
    obtain ⟨its, rv, p, hz⟩ := I.tuple hq
    obtain ⟨f0, f1, f2, f3, f4, f5⟩ := hf it (by simp)
    have hl := rv.length
    unfold pyNext
    refine wpAny_bind (wpAny_attempt (wpAny_callSpecial?_slot (name := Str.ofString "__next__") (⟨_, he, rfl⟩ : s.TypeIs (.ref e) "enumerate") F.slot_enumerate_next
      (wpAny_call_entry F.slot_enumerate_next (⟨_, he, rfl⟩ : s.TypeIs (.ref e) "enumerate") F.entry_enumerate_next ?_ (F.args_enumerate_next_1 _))))
    show wpAny _ _ (field (.ref e) 2 >>= _) _ _ _
    refine wpAny_bind (wpAny_field he rfl (x := .ref it) rfl (wpAny_bind ?_))
    refine wpAny_nextOf_tuple_end (I.ok.hd hc) hit p (by simp; omega) fun h' x he' hx' => ?_
    obtain ⟨o, ho, hcl⟩ := hx'
    exact wpAny_bind (wpAny_isInstance (T := "StopIteration") (b := true) ⟨o, ho, hcl⟩ isSubtype_stop (wpAny_pure ⟨rfl, I.turned (t' := s.toks) (fun b o hb q => he' b o hb q) f0 f1 f3 f4 f5⟩))
  self := fun A i s Q E st h => let ⟨⟨_, he⟩, _⟩ := st; wpAny_pyIter_enum he h
def iEnumT (K : PySem.W.Frag) (ta : TA) : TI := fun σ H R => ta σ H fun vs H1 => ∃ a xs, vs = [.ref a] ∧ SqT K H1 a xs ∧ R (Itet K a) H1
theorem pi_enumT {X : Cx} {e : Expr} {ta : TA} {p pos tpos : Pos} {elts : List Expr} {kk : Nat} (hg : Gl X "enumerate") (hm : X.mg "enumerate" = none) (ha : PA X [e] ta) (hs : starEach [e] X.env = [(false, eval e X.env)] := by rfl) :
    PI X (.Tuple elts kk tpos) (.Call (.Name "enumerate" p) [e] [] pos) (iEnumT X.K ta) := by
  refine ⟨fun pins s σ H R I h => ?_⟩
  refine Call_ (ld_blt I hg hm boot_enumerate (PyProof.Rows.callWith_type1 (thn (ha.run pos pins s σ H _ I h) fun us s1 ⟨vs, H1, I1, r1, q1⟩ => ?_) hs rfl))
  obtain ⟨a, xs, ex, hq, q⟩ := q1
  subst ex
  obtain ⟨u, rfl, r⟩ := vals1 r1
  obtain rfl : u = Value.ref a := r
  obtain ⟨its, rv, tup, hz⟩ := I1.tuple hq
  have lta : a < s1.heap.objs.size := by
    obtain ⟨o, ho, _⟩ := tup
    exact Heap.lt_size ho
  refine call_enumT tup fun h' he hit hk => wpAny_pyIter_enum he ?_
  have I2 : Inv X pins σ H1 { s1 with heap := h' } := I1.kept (t' := s1.toks) hk
  refine ⟨s1.heap.objs.size + 1, [s1.heap.objs.size + 1, s1.heap.objs.size], _, _, H1, rfl, I2, turn_enumT a (s1.heap.objs.size + 1) s1.heap.objs.size, ⟨⟨.none, he⟩, hit, Nat.succ_ne_self _, Nat.ne_of_gt (Nat.lt_succ_of_lt lta), Nat.ne_of_lt lta⟩, fun b hb => ?_, q⟩
  have hle : s1.heap.objs.size ≤ b := by
    rcases List.mem_cons.mp hb with z | z
    · rw [z]
      exact Nat.le_add_right _ _
    · rw [List.mem_singleton.mp z]
      exact Nat.le_refl _
  exact I1.fpOk hle (I1.hok.fresh hle)
/-- over a tuple that the body leaves as it is -/
theorem for_enumT {K : PySem.W.Frag} {a : Addr} {xs : List V} {g : TG} {tb : TS} {D : Ends} {σ : L2.St} {H : Hp} (Pv : Nat → L2.St → Hp → Prop) (h0 : Pv 0 σ H) (hl : ∀ i σ H, i ≤ xs.length → Pv i σ H → SqT K H a xs)
    (hs : ∀ i x σ H T, xs[i]? = some x → Pv i σ H → H T = none → g (.ref T) σ (upd H T (.tup [.int (i : Nat), x])) fun σ2 H2 => tb { D with nx := Pv (i + 1), ct := Pv (i + 1), bk := D.nx } σ2 H2) (hd : ∀ σ H, Pv xs.length σ H → D.nx σ H) :
    ∃ W : Nat → Nat → L2.St → Hp → Prop, (∃ m, W 0 m σ H) ∧ ∀ i m σ H, W i m σ H →
      ((Itet K a).stop i H ∧ D.nx σ H) ∨ ((Itet K a).go i H ∧ ∃ N : L2.St → Hp → Prop, (∀ σ' H', N σ' H' → ∃ m', m' < m ∧ W (i + 1) m' σ' H') ∧ ∀ x H', (Itet K a).yld i H x H' → g x σ H' fun σ2 H2 => tb { D with nx := N, ct := N, bk := D.nx } σ2 H2) := by
  refine ⟨fun i m σ H => m = xs.length - i ∧ i ≤ xs.length ∧ Pv i σ H, ⟨xs.length, by simp, Nat.zero_le _, h0⟩, ?_⟩
  rintro i m σ H ⟨rfl, hi, p⟩
  have q := hl i σ H hi p
  by_cases lt : i < xs.length
  · refine .inr ⟨⟨xs, xs[i], q, by simp [lt]⟩, Pv (i + 1), fun σ' H' p' => ⟨xs.length - (i + 1), by omega, rfl, lt, p'⟩, fun x H' y => ?_⟩
    obtain ⟨T, z, rfl, hT, rfl, y⟩ := y
    exact hs i z σ H T (y xs q) p hT
  · obtain rfl : i = xs.length := by omega
    exact .inl ⟨⟨xs, q, Nat.le_refl _⟩, hd σ H p⟩
end Ex
set_option Elab.async false
set_option linter.all false
set_option maxRecDepth 100000
set_option maxHeartbeats 4000000
namespace Cv
open PySem PySem.Spec PyProof.Rows L2
/-! ### tuples cut, joined, repeated: the same object or a new one -/
theorem same_new {H : Hp} {p : Addr} {o : HO} (h : H p = none) : Same H (upd H p o) := fun b x e => by
  rw [upd_ne (ne_of_none e h)]
  exact e
theorem cut_whole {xs : List V} {lo hi : Option Int} (w : HT.sIx xs.length 0 lo = 0 ∧ HT.sIx xs.length xs.length hi = xs.length) : cutV xs lo hi = xs := by
  unfold cutV
  rw [w.1, w.2, List.drop_zero, Nat.sub_zero, List.take_of_length_le (Nat.le_refl _)]
section
variable {X : Cx}
def rSlG (K : PySem.W.Frag) : V → Option Int → Option Int → Hp → VK → Prop := fun x lo hi H Q => ∃ a xs, x = .ref a ∧ SqT K H a xs ∧ ∀ H' p, Same H H' → SqT K H' p (cutV xs lo hi) → Q (.ref p) H'
theorem sl_tupG : SlR X (rSlG X.K) := by
  intro pins s σ H x v vl vu lo hi sl Q I rx hs pl pu h
  obtain ⟨a, xs, rfl, hx, q⟩ := h
  refine sl_tupA pins s σ H _ v vl vu lo hi sl Q I rx hs pl pu ⟨a, xs, rfl, hx, fun w => q H a (Same.refl _) ?_, fun w p np => q _ p (same_new np) (SqT.of upd_same)⟩
  rw [cut_whole w]
  exact hx
def rCatG (K : PySem.W.Frag) : V → V → Hp → VK → Prop := fun x y H Q => ∃ a b xs ys, x = .ref a ∧ y = .ref b ∧ SqT K H a xs ∧ SqT K H b ys ∧ xs.length + ys.length ≤ sizeLine ∧ ∀ H' p, Same H H' → SqT K H' p (xs ++ ys) → Q (.ref p) H'
theorem op_catG : OpR X (binaryOp .Add) (rCatG X.K) := by
  intro pins s σ H x y v u Q I rx ry h
  obtain ⟨a, b, xs, ys, rfl, rfl, hx, hy, l, q⟩ := h
  refine op_catA pins s σ H _ _ v u Q I rx ry ⟨a, b, xs, ys, rfl, rfl, hx, hy, l, fun e => q H b (Same.refl _) ?_, fun _ e => q H a (Same.refl _) ?_, fun _ _ p np => q _ p (same_new np) (SqT.of upd_same)⟩
  · rw [e]
    exact hy
  · rw [e, List.append_nil]
    exact hx
end
/-! ### a comprehension whose list grows -/
/-- at turn i the new list at D is f i, all that stood stands -/
def Grow (H1 : Hp) (D : Addr) (f : Nat → List V) : Nat → Hp → Prop := fun i H => Same H1 H ∧ H D = some (.lst (f i))
theorem grow0 {H1 : Hp} {D : Addr} {f : Nat → List V} (nD : H1 D = none) (f0 : f 0 = []) : Grow H1 D f 0 (upd H1 D (.lst [])) := ⟨same_new nD, by rw [upd_same, f0]⟩
theorem put {H1 H H4 : Hp} {D : Addr} {f : Nat → List V} {i : Nat} {y : V} (nD : H1 D = none) (g : Grow H1 D f i H) (s : Same H H4) (l : (f i).length < sizeLine) (h : f (i + 1) = f i ++ [y]) :
    ∃ acc, H4 D = some (.lst acc) ∧ acc.length < sizeLine ∧ Grow H1 D f (i + 1) (upd H4 D (.lst (acc ++ [y]))) := by
  refine ⟨f i, s _ _ g.2, l, fun b o e => ?_, by rw [upd_same, h]⟩
  rw [upd_ne (ne_of_none e nD)]
  exact s _ _ (g.1 _ _ e)
theorem left {H1 H H4 : Hp} {D : Addr} {f : Nat → List V} {i : Nat} (g : Grow H1 D f i H) (s : Same H H4) (h : f (i + 1) = f i) : Grow H1 D f (i + 1) H4 := ⟨g.1.trans s, by rw [h]; exact s _ _ g.2⟩
/-- the items of l that are so, each told by v -/
def fil {α : Type} (l : List α) (p : α → Bool) (v : α → V) (i : Nat) : List V := ((l.take i).filter p).map v
theorem fil0 {α : Type} {l : List α} {p : α → Bool} {v : α → V} : fil l p v 0 = [] := rfl
theorem fil_len {α : Type} {l : List α} {p : α → Bool} {v : α → V} {i : Nat} : (fil l p v i).length ≤ l.length := by
  unfold fil
  rw [List.length_map]
  refine Nat.le_trans (List.length_filter_le _ _) ?_
  rw [List.length_take]
  exact Nat.min_le_right _ _
theorem fil_yes {α : Type} {l : List α} {p : α → Bool} {v : α → V} {i : Nat} {x : α} (h : l[i]? = some x) (e : p x = true) : fil l p v (i + 1) = fil l p v i ++ [v x] := by
  unfold fil
  rw [List.take_add_one, h, List.filter_append, List.map_append]
  simp [e]
theorem fil_no {α : Type} {l : List α} {p : α → Bool} {v : α → V} {i : Nat} {x : α} (h : l[i]? = some x) (e : p x = false) : fil l p v (i + 1) = fil l p v i := by
  unfold fil
  rw [List.take_add_one, h, List.filter_append, List.map_append]
  simp [e]
theorem fil_all {α : Type} {l : List α} {p : α → Bool} {v : α → V} {n : Nat} (h : l.length ≤ n) : fil l p v n = (l.filter p).map v := by
  unfold fil
  rw [List.take_of_length_le h]
end Cv
set_option Elab.async false
set_option linter.all false
set_option maxRecDepth 100000
set_option maxHeartbeats 1000000
/-! t[::-1], t a tuple -/
namespace Rvt
open PySem PySem.Spec PyProof.Rows L2
theorem adjust_rev (n : Nat) : Builtin.Slice.sliceAdjust none none (-1) (n : Int) = ((n : Int) - 1, -1) := by
  unfold Builtin.Slice.sliceAdjust
  simp
theorem places_rev (n : Nat) : Builtin.Slice.slicePlaces ((n : Int) - 1) (-1) (-1) = n := by
  unfold Builtin.Slice.slicePlaces
  simp
  split <;> omega
theorem fm_congr {α β : Type} {f g : α → Option β} : ∀ {l : List α}, (∀ x ∈ l, f x = g x) → l.filterMap f = l.filterMap g
  | [], _ => rfl
  | x :: r, h => by
    rw [List.filterMap_cons, List.filterMap_cons, h x List.mem_cons_self, fm_congr fun y hy => h y (List.mem_cons_of_mem _ hy)]
theorem pick_rev (xs : List Value) : ((List.range xs.length).filterMap fun (m : Nat) => xs.toArray[(((xs.length : Int) - 1) + (m : Int) * (-1)).toNat]?) = xs.reverse := by
  have e : ∀ m ∈ List.range xs.length, xs.toArray[(((xs.length : Int) - 1) + (m : Int) * (-1)).toNat]? = xs.reverse[m]? := fun m hm => by
    have hm' := List.mem_range.mp hm
    rw [show (((xs.length : Int) - 1) + (m : Int) * (-1)).toNat = xs.length - 1 - m by omega]
    rw [List.getElem?_toArray, List.getElem?_reverse hm']
  rw [fm_congr e]
  have e2 : ∀ ys : List Value, ((List.range ys.length).filterMap fun m => ys[m]?) = ys := fun ys => by
    induction ys with
    | nil => rfl
    | cons y r ih =>
      rw [List.length_cons, List.range_succ_eq_map, List.filterMap_cons]
      simp only [List.getElem?_cons_zero, List.filterMap_map]
      have e3 : ((fun m => (y :: r)[m]?) ∘ Nat.succ) = fun m => r[m]? := by
        funext m
        simp
      rw [e3, ih]
  have := e2 xs.reverse
  rw [List.length_reverse] at this
  exact this
section
variable {prog : Program} {w : World} {A : Around} {E : Value → Shared → Prop} {s : Shared}
theorem applied_rev {sl : Addr} {vl vu vs : Value} {n : Nat} {Q : Int × Int × Nat → Shared → Prop} (hs : s.heap.IsSliceOf sl vl vu vs) (pl : IsPart vl none) (pu : IsPart vu none) (ps : IsPart vs (some (-1)))
    (h : Q (((n : Int) - 1), -1, n) s) : wpAny (model prog w) A (Builtin.Slice.sliceApplied (.ref sl) (pure (n : Int))) Q E s := by
  obtain ⟨o1, ho1, hc1, hd1⟩ := id hs
  unfold Builtin.Slice.sliceApplied Builtin.Slice.sliceFields; refine wpAny_bind (wpAny_bind (wpAny_field ho1 hd1 (x := vl) rfl (wpAny_bind (wpAny_field ho1 hd1 (x := vu) rfl (wpAny_bind (wpAny_field ho1 hd1 (x := vs) rfl (wpAny_pure ?_)))))))
  refine wpAny_bind (HT.slicePart_ ps ?_)
  show wpAny _ _ (if ((-1 : Int) == 0) = true then _ else _) _ _ s
  rw [if_neg (show ¬ ((-1 : Int) == 0) = true by decide)]
  refine wpAny_bind (HT.slicePart_ pl (wpAny_bind (HT.slicePart_ pu (wpAny_bind (wpAny_pure (show wpAny _ _ (match Builtin.Slice.sliceAdjust none none (-1) (n : Int) with | (lo, hi) => pure (lo, (-1 : Int), Builtin.Slice.slicePlaces lo hi (-1))) _ _ s from ?_))))))
  rw [adjust_rev]
  show wpAny _ _ (pure (((n : Int) - 1), (-1 : Int), Builtin.Slice.slicePlaces ((n : Int) - 1) (-1) (-1))) _ _ s
  rw [places_rev]; exact wpAny_pure h
theorem getItem_rev {t sl : Addr} {its : List Value} {vl vu vs : Value} {Q : Value → Shared → Prop} (ht : IsTup s.heap t its.toArray) (hs : s.heap.IsSliceOf sl vl vu vs) (pl : IsPart vl none) (pu : IsPart vu none) (ps : IsPart vs (some (-1)))
    (h : Q (.ref s.heap.objs.size) { s with heap := s.heap.push { cls := .type "tuple", data := .seq its.reverse.toArray } }) (hsz : its.length ≤ sizeLine) : wpAny (model prog w) A (getItem (.ref t) (.ref sl)) Q E s := by
  have fits : sizeOk (.seq its.reverse.toArray) := by
    show its.reverse.toArray.size ≤ sizeLine
    rw [List.size_toArray, List.length_reverse]; exact hsz
  obtain ⟨o1, ho1, hc1, hd1⟩ := id hs
  have isSl : s.TypeIs (.ref sl) "slice" := ⟨o1, ho1, hc1⟩
  unfold getItem; try with_reducible refine wpAny_holding ?_
  (first | refine wpAny_bind (wpAny_pure ?_) | skip); refine wpAny_bind (wpAny_sequenceKey ht.typeIs (by decide) ?_)
  refine wpAny_bind (wpAny_callSpecial?_slot (name := Str.ofString "__getitem__") ht.typeIs PyProof.Rows.slot_tuple_getitem (wpAny_call_entry PyProof.Rows.slot_tuple_getitem ht.typeIs entry_tuple_getitem ?_ (args_tuple_getitem _ _)))
  show wpAny _ _ (Builtin.Tuple.tupleItemsOf (.ref t) >>= _) _ _ s; refine wpAny_bind (tupleItemsOf_ ht (wpAny_bind (wpAny_typeOf isSl ?_)))
  rw [if_pos (by decide), List.size_toArray]
  refine wpAny_bind (applied_rev hs pl pu ps ?_)
  have nay : ¬ (((((its.length : Nat) : Int) - 1) == 0 && (-1 : Int) == 1 && its.length == its.length) = true) := by
    rw [show ((-1 : Int) == 1) = false from rfl, Bool.and_false, Bool.false_and]
    exact Bool.false_ne_true
  show wpAny _ _ (if ((((its.length : Nat) : Int) - 1) == 0 && (-1 : Int) == 1 && its.length == its.length) = true then _ else _) _ _ s
  rw [if_neg nay, pick_rev]
  first | exact wpAny_bind (m := Builtin.Tuple.tupleExact _) (wpAny_newObj_type (wpAny_pure ⟨_, rfl, wpAny_pure h⟩) fits) | exact wpAny_bind (m := Builtin.Tuple.tupleExact _) (wpAny_newObj_type (wpAny_bind (wpAny_pure (wpAny_pure ⟨_, rfl, wpAny_pure h⟩))) fits) | exact wpAny_bind (wpAny_bind (m := Builtin.Tuple.tupleExact _) (wpAny_newObj_type (wpAny_pure (wpAny_pure ⟨_, rfl, wpAny_pure h⟩)) fits)) | exact wpAny_bind (wpAny_bind (m := Builtin.Tuple.tupleExact _) (wpAny_newObj_type (wpAny_pure ⟨_, rfl, wpAny_pure h⟩) fits))
end
section
variable {X : Cx}
/-- t[::-1] -/
def tRevT (K : PySem.W.Frag) (te : TE) : TE := fun σ H Q => te σ H fun x H1 => ∃ (a : Addr) (xs : List V), x = .ref a ∧ SqT K H1 a xs ∧ ∀ p, H1 p = none → Q (.ref p) (upd H1 p (.tup xs.reverse))
theorem pe_revT {e : Expr} {te : TE} {k : Nat} {p1 p2 p3 pos : Pos} (he : PE X e te) : PE X (.Subscript e (.Slice none none (some (.UnaryOp .USub (.Constant (.int 1) k p1) p2)) p3) pos) (tRevT X.K te) := by
  refine ⟨fun pins s σ H Q I h => Subscript_ (thn (he.run pins s σ H _ I h) fun v s1 ⟨x, H1, I1, r1, a, xs, ex, hx, q⟩ => ?_)⟩
  subst ex
  cases r1
  have stp : PO X (some (.UnaryOp .USub (.Constant (.int 1) k p1) p2)) (tPart (tUn (rU fun i => .int (-i)) (tC (.int 1)))) := po_some (pe_un un_neg pe_int)
  refine wpAny_Slice (thn (po_none.run pins s1 σ H1 (fun o H2 => o = none ∧ H2 = H1) I1 ⟨rfl, rfl⟩) fun vl s2 ⟨l, H2, I2, pl, eL, eH⟩ => ?_)
  subst eL eH
  refine thn (po_none.run pins s2 σ H2 (fun o H3 => o = none ∧ H3 = H2) I2 ⟨rfl, rfl⟩) fun vu s3 ⟨u, H3, I3, pu, eU, eH⟩ => ?_
  subst eU eH
  refine thn (stp.run pins s3 σ H3 (fun o H4 => o = some (-1) ∧ H4 = H3) I3 ⟨1, rfl, -1, rfl, rfl, rfl⟩) fun vs s4 ⟨o, H4, I4, ps, eO, eH⟩ => ?_
  subst eO eH
  have I5 : Inv X pins σ H4 { s4 with heap := s4.heap.push { cls := .type "slice", data := .fields #[vl, vu, vs] } } := I4.kept (t' := s4.toks) (fun b ob q => Heap.get?_push_of_some _ q)
  obtain ⟨its, r, ht, hz⟩ := I5.tuple hx
  have hlen := r.length
  show wpAny (model X.prog X.w) X.A (subscriptTail e (.Slice none none (some (.UnaryOp .USub (.Constant (.int 1) k p1) p2)) p3) (.ref a) (.ref s4.heap.objs.size)) (EP X pins σ Q) X.xe { s4 with heap := s4.heap.push { cls := .type "slice", data := .fields #[vl, vu, vs] } }
  refine tail_any (ops := [.ref a, .ref s4.heap.objs.size]) ht.typeIs (PyProof.Rows.slot_tuple_getitem.lookup) ?_ (by with_unfolding_all rfl)
  refine getItem_rev ht (Heap.IsSliceOf.new _ vl vu vs) pl pu ps ?_ (by omega)
  refine ⟨.ref _, _, I5.laid (t' := s4.toks) (o := .tup xs.reverse) (fun b ob q => Heap.get?_push_of_some _ q) (Nat.le_refl _) ?_, rfl, q _ (I5.hok.fresh (Nat.le_refl _))⟩
  exact ⟨by rw [List.length_reverse]; omega, _, r.reverse, IsTup.new _ _⟩
end
end Rvt
set_option Elab.async false
set_option linter.all false
set_option maxRecDepth 100000
set_option maxHeartbeats 1000000
/-! l.count(x), flat items -/
namespace Cnt
open PySem PySem.Spec PyProof.Rows L2
theorem count_eqU {x : V} : ∀ {xs : List V} {us : List Value}, Vals xs us → xs.all flatV = true → us.countP (eqU x) = xs.countP fun y => eqV y x
  | _, _, .nil, _ => rfl
  | y :: xs, u :: us, .cons r t, f => by
    rw [List.all_cons, Bool.and_eq_true] at f
    rw [List.countP_cons, List.countP_cons, eqU_of r f.1, count_eqU t f.2]
section
variable {X : Cx}
def rCntF (K : PySem.W.Frag) : V → List V → Hp → VK → Prop := fun x xs H Q => ∃ (p : Addr) (ys : List V) (y : V), x = .ref p ∧ xs = [y] ∧ SqL K H p ys ∧ flatV y = true ∧ ys.all flatV = true ∧ Q (.int ((ys.countP fun z => eqV z y) : Nat)) H
theorem mt_countF : MtR X "list.count" (rCntF X.K) := by
  intro pins s σ H x xs v us Q I rx rxs h
  obtain ⟨p, ys, y, rfl, rfl, hs, fy, fs, q⟩ := h
  cases rx
  obtain ⟨u, rfl, ru⟩ := rxs.one
  obtain ⟨its, rv, ⟨⟨cls, dd, data, sl⟩, n, ho, hc, hdn, hd⟩, hlen⟩ := I.list hs
  simp only at hc hd
  subst hc hd
  refine call_meets PySem.F.slot_list_count ⟨_, ho, rfl⟩ PySem.F.entry_list_count (PySem.F.args_list_count_2 _ _) (SeqAt.list_countAt p its.toArray n dd sl u (eqU y)) ⟨ho, fun z hz => mem_eqAt ru fy rv fs z (by simpa using hz), ?_⟩
  have ec : its.toArray.toList.countP (eqU y) = ys.countP fun z => eqV z y := count_eqU rv fs
  refine ⟨.int ((ys.countP fun z => eqV z y) : Nat), H, I.tok _, ⟨s.toks, ?_⟩, q⟩
  show Value.int ((its.toArray.toList.countP (eqU y) : Nat) : Int) s.toks = Value.int (((ys.countP fun z => eqV z y) : Nat) : Int) s.toks
  rw [ec]
end
end Cnt
set_option Elab.async false
set_option linter.all false
set_option maxRecDepth 100000
set_option maxHeartbeats 4000000
namespace Cv
open PySem PySem.Spec PyProof.Rows L2
def topS (i : Nat) : Stmt := PySem.Challenge.pw_countveil_k03_records_counted.main.body.getD i (.Pass ⟨0, 0, 0, 0⟩)
/-! ### the purse -/
def big : Int := (10 ^ 60) ^ 60
/-- a purse at p, its cells at c, at most T draws so far -/
def Pur (H : Hp) (p c : Addr) (T : Nat) : Prop := ∃ (cs : List Int) (k : Int), H p = some (.lst [.ref c, .int k]) ∧ H c = some (.lst (cs.map V.int)) ∧ 0 < cs.length ∧ cs.length ≤ 63 ∧ (∀ x ∈ cs, 0 ≤ x ∧ x < big) ∧ 0 ≤ k ∧ k ≤ T
/-- all but the purse is as it was -/
def Kp (p c : Addr) (H H' : Hp) : Prop := ∀ a o, a ≠ p → a ≠ c → H a = some o → H' a = some o
theorem Kp.refl {p c : Addr} {H : Hp} : Kp p c H H := fun _ _ _ _ h => h
theorem Kp.trans {p c : Addr} {H H1 H2 : Hp} (x : Kp p c H H1) (y : Kp p c H1 H2) : Kp p c H H2 := fun a o h1 h2 h => y a o h1 h2 (x a o h1 h2 h)
theorem Kp.of {p c : Addr} {H H1 : Hp} (x : Same H H1) : Kp p c H H1 := fun a o _ _ h => x a o h
theorem same_upd {H : Hp} {p : Addr} {o : HO} (h : H p = none) : Same H (upd H p o) := fun b x e => by
  rw [upd_ne (ne_of_none e h)]
  exact e
theorem Pur.ne {H : Hp} {p c : Addr} {T : Nat} (h : Pur H p c T) : p ≠ c := by
  obtain ⟨cs, k, hp, hc, h0, _⟩ := h
  refine ne_of hp hc fun e => ?_
  have e2 := HO.lst.inj e
  cases cs with
  | nil => simp at h0
  | cons x r => simp at e2
theorem Pur.same {H H' : Hp} {p c : Addr} {T : Nat} (h : Pur H p c T) (s : Same H H') : Pur H' p c T := by
  obtain ⟨cs, k, hp, hc, r⟩ := h
  exact ⟨cs, k, s _ _ hp, s _ _ hc, r⟩
theorem Pur.le {H : Hp} {p c : Addr} {T T' : Nat} (h : Pur H p c T) (l : T ≤ T') : Pur H p c T' := by
  obtain ⟨cs, k, hp, hc, h1, h2, h3, h4, h5⟩ := h
  exact ⟨cs, k, hp, hc, h1, h2, h3, h4, by omega⟩
theorem Pur.nep {H : Hp} {p c q : Addr} {T : Nat} (h : Pur H p c T) (n : H q = none) : q ≠ p ∧ q ≠ c := by
  obtain ⟨cs, k, hp, hc, _⟩ := h
  exact ⟨(ne_of_none hp n).symm, (ne_of_none hc n).symm⟩
/-- an object that isn't the purse's stays where the purse is changed -/
theorem Pur.upd {H : Hp} {p c q : Addr} {T : Nat} {o : HO} (h : Pur H p c T) (h1 : q ≠ p) (h2 : q ≠ c) : Pur (upd H q o) p c T := by
  obtain ⟨cs, k, hp, hc, r⟩ := h
  exact ⟨cs, k, by rw [upd_ne h1.symm]; exact hp, by rw [upd_ne h2.symm]; exact hc, r⟩
theorem Kp.upd {H H1 : Hp} {p c q : Addr} {o : HO} (h : Kp p c H H1) (n : H q = none) : Kp p c H (upd H1 q o) := fun a x h1 h2 e => by
  rw [upd_ne (ne_of_none e n)]
  exact h a x h1 h2 e
theorem seL {α : Type} {l : List α} {j : Nat} {x y : α} (h : y ∈ l.set j x) : y = x ∨ y ∈ l := by
  rcases List.mem_or_eq_of_mem_set h with h | h
  · exact .inr h
  · exact .inl h
/-! ### draw -/
theorem ixN_nat' {n j : Nat} (hj : j < n) : ixN n (j : Int) = some j := by
  unfold ixN
  rw [if_pos (by omega), if_pos (by omega)]
  simp
theorem modB {a b : Int} (h : 0 < b) (h2 : b ≤ 2147483647) : -(2 ^ 64) < a % b ∧ a % b < 2 ^ 64 := by
  have h3 := Int.emod_nonneg a (show b ≠ 0 by omega)
  have h4 := Int.emod_lt_of_pos a h
  omega
theorem c1 : (0 : Int) < 2147483629 := by decide
theorem c2 : (0 : Int) < 2147483647 := by decide
theorem c3 : (0 : Int) < 2147483587 := by decide
abbrev sDraw : Stmt := topS 42
theorem scD : FnScope ["_law_purse_here", "_law_out_of", "_law_cells", "_law_went", "_law_where", "_law_cell", "_law_num", "_law_other"] ["_law_purse_here", "_law_out_of"] (defScope sDraw) := ⟨rfl, rfl, rfl, by decide +kernel, rfl, by decide +kernel, by decide +kernel⟩
def spDraw : Sp := fun vs H Q _ => ∃ (p c : Addr) (T : Nat) (n : Int), vs = [.ref p, .int n] ∧ Pur H p c T ∧ T ≤ 1000000000 ∧ 1 ≤ n ∧ n ≤ 1000000000 ∧
  ∀ H' r, 0 ≤ r → r < n → Pur H' p c (T + 1) → Kp p c H H' → Q (.int r) H'
section
variable {P : Program} {w : World} {K : PySem.W.Frag} {mg : Str → Option Value} {base : Heap}
theorem ok_draw {f : Addr} {fd : FuncData} {k : Nat} (F : Fun K "_law_draw" "_law_draw" sDraw f fd) (ml : mg "len" = none) : FnOk P w K mg base CX0 (k + 1) f fd ["_law_purse_here", "_law_out_of"] spDraw := by
  refine F.ok scD (fun vs H Q E h => ?_) (fun cdv A outer s H vs Q E hr h => ?_)
  · obtain ⟨p, c, T, n, rfl, _⟩ := h
    rfl
  · obtain ⟨p, c, T, n, rfl, hP, hT, n1, n2, q⟩ := h
    have hpc := hP.ne
    obtain ⟨cs, g, hp, hc, h0, h63, hb, g0, gT⟩ := hP
    refine ⟨_, pss_cons (ps_asg (pv 0) (pg_lst rfl (pgs_cons (pg_name (i := 2) scD.nd rfl (.inl rfl)) (pgs_cons (pg_name (i := 3) scD.nd rfl (.inl rfl)) pgs_nil))))
      (pss_cons (ps_set (i := 4) scD.nd rfl (.inl rfl) (pe_op op_mod (pv 3) (pe_callB call_len_seq (by rfl) ml PySem.boot_len (pa_cons (pv 2) pa_nil))))
      (pss_cons (ps_set (i := 5) scD.nd rfl (.inl rfl) (pe_ix ix_list (pv 2) (pv 4) (fun _ _ => rfl)))
      (pss_cons (ps_asg (pe_op op_add (pv 3) pe_int) (pg_sub (pv 0) pe_int set_list))
      (pss_cons (ps_if (pt_cmpR op_ge (pv 5) (pe_op op_pow pe_int pe_int) (nomark _))
        (pss_cons (ps_asg (pe_op op_fdivN (pv 5) (pv 1)) (pg_sub (pv 2) (pv 4) set_list)) (pss_one (ps_ret (pe_op op_mod (pv 5) (pv 1))))) pss_nil)
      (pss_cons (ps_set (i := 6) scD.nd rfl (.inl rfl) (pe_op op_mod (pe_op op_add (pe_op op_add (pe_op op_mul (pe_op op_mod (pv 5) pe_int) pe_int) (pe_op op_mul (pe_op op_mul (pv 3) (pv 3)) pe_int)) pe_int) pe_int))
      (pss_cons (ps_set (i := 6) scD.nd rfl (.inl rfl) (pe_op op_mod (pe_op op_mul (pv 6) (pv 6)) pe_int))
      (pss_cons (ps_set (i := 6) scD.nd rfl (.inl rfl) (pe_op op_mod (pe_op op_mul (pv 6) (pv 6)) pe_int))
      (pss_cons (ps_if (pt_cmpR op_gt (pv 1) (pe_op op_pow pe_int pe_int) (nomark _))
        (pss_cons (ps_set (i := 7) scD.nd rfl (.inl rfl) (pe_op op_mod (pe_op op_add (pe_op op_add (pe_op op_mul (pv 6) pe_int) (pe_op op_mul (pv 3) pe_int)) pe_int) pe_int))
          (pss_one (ps_set (i := 6) scD.nd rfl (.inl rfl) (pe_op op_mul (pv 6) (pe_op op_add (pe_op op_mul (pe_op op_mul (pv 7) (pv 7)) (pv 7)) pe_int))))) pss_nil)
      (pss_one (ps_ret (pe_op op_mod (pv 6) (pv 1)))))))))))), ?_⟩
    -- the unpacked purse; where; the cell
    refine ⟨.ref p, rfl, p, _, rfl, SqL.of hp, rfl, _, _, rfl, _, _, rfl, rfl, ?_⟩
    have hl : (0 : Int) < (cs.map V.int).length := by
      rw [List.length_map]
      omega
    refine ⟨.int g, rfl, .ref c, rfl, c, _, rfl, .inl (SqL.of hc), g, _, rfl, rfl, hl, ?_⟩
    have j1 : 0 ≤ g % (cs.map V.int).length := Int.emod_nonneg _ (by omega)
    have j2 : g % (cs.map V.int).length < (cs.map V.int).length := Int.emod_lt_of_pos _ hl
    obtain ⟨j, ej⟩ : ∃ j : Nat, (j : Int) = g % (cs.map V.int).length := ⟨(g % (cs.map V.int).length).toNat, by omega⟩
    rw [← ej] at j1 j2
    have hj : j < cs.length := by
      rw [List.length_map] at j2
      omega
    have hcj : (cs.map V.int)[j]? = some (.int cs[j]) := by
      rw [List.getElem?_map, List.getElem?_eq_getElem hj]
      rfl
    have hx := hb cs[j] (List.getElem_mem hj)
    generalize cs[j] = x at hx hcj
    refine ⟨.ref c, rfl, _, rfl, c, _, _, .int x, rfl, rfl, SqL.of hc, (by rw [← ej]; exact atI_nat hcj), ?_⟩
    -- purse[1] = went + 1
    refine ⟨.int g, rfl, _, _, rfl, rfl, .ref p, rfl, p, _, _, 1, rfl, rfl, hp, rfl, ?_⟩
    have hc1 : (upd H p (.lst [.ref c, .int (g + 1)])) c = some (.lst (cs.map V.int)) := by
      rw [upd_ne hpc.symm]
      exact hc
    have K1 : Kp p c H (upd H p (.lst [.ref c, .int (g + 1)])) := fun a o h1 _ e => by
      rw [upd_ne h1]
      exact e
    have P1 : Pur (upd H p (.lst [.ref c, .int (g + 1)])) p c (T + 1) := ⟨cs, g + 1, upd_same, hc1, h0, h63, hb, by omega, by omega⟩
    -- cell >= 10 ** 18
    refine ⟨.int x, rfl, _, _, rfl, rfl, ⟨by decide, by decide, by decide⟩, _, _, rfl, rfl, _, rfl, ite2 (fun e => ?_) (fun e => ?_)⟩
    · refine ⟨.int x, rfl, .int n, rfl, _, _, rfl, rfl, ⟨by omega, by omega⟩, .ref c, rfl, _, rfl, c, _, _, j, rfl, rfl, hc1, ?_, ?_⟩
      · rw [← ej, List.length_map]
        exact ixN_nat' hj
      · refine ⟨.int x, rfl, .int n, rfl, _, _, rfl, rfl, by omega, ?_⟩
        refine q _ _ (Int.emod_nonneg _ (by omega)) (Int.emod_lt_of_pos _ (by omega)) ⟨cs.set j (x.fdiv n), g + 1, ?_, ?_, ?_, ?_, ?_, by omega, by omega⟩ ?_
        · rw [upd_ne hpc]
          exact upd_same
        · rw [upd_same, List.map_set]
        · rw [List.length_set]
          exact h0
        · rw [List.length_set]
          exact h63
        · intro y hy
          rcases seL hy with rfl | hy
          · rw [Int.fdiv_eq_ediv_of_nonneg _ (by omega)]
            have a1 : 0 ≤ x / n := Int.ediv_nonneg hx.1 (by omega)
            have a2 : x / n ≤ x := Int.ediv_le_self _ hx.1
            exact ⟨a1, by omega⟩
          · exact hb y hy
        · intro a o h1 h2 e
          rw [upd_ne h2]
          exact K1 a o h1 h2 e
    · -- num
      refine ⟨.int x, rfl, _, _, rfl, rfl, c1, _, _, rfl, rfl, .inr ⟨by decide, by decide⟩, .int g, rfl, .int g, rfl, _, _, rfl, rfl, .inl ⟨by omega, by omega⟩, _, _, rfl, rfl, .inr ⟨by decide, by decide⟩, _, _, rfl, rfl, _, _, rfl, rfl, _, _, rfl, rfl, c2, ?_⟩
      refine ⟨_, rfl, _, rfl, _, _, rfl, rfl, .inl (modB c2 (by decide)), _, _, rfl, rfl, c1, ?_⟩
      refine ⟨_, rfl, _, rfl, _, _, rfl, rfl, .inl (modB c1 (by decide)), _, _, rfl, rfl, c3, ?_⟩
      refine ⟨.int n, rfl, _, _, rfl, rfl, ⟨by decide, by decide, by decide⟩, _, _, rfl, rfl, _, rfl, ite2 (fun e => ?_) (fun e => ?_)⟩
      · have z2 := of_decide_eq_true e
        have z3 : (10 : Int) ^ (9 : Int).toNat = 1000000000 := by decide
        omega
      · refine ⟨_, rfl, .int n, rfl, _, _, rfl, rfl, by omega, ?_⟩
        exact q _ _ (Int.emod_nonneg _ (by omega)) (Int.emod_lt_of_pos _ (by omega)) P1 K1
end
end Cv
set_option Elab.async false
set_option linter.all false
set_option maxRecDepth 100000
set_option maxHeartbeats 4000000
namespace Cv
open PySem PySem.Spec PyProof.Rows L2
theorem glen (sep : Str) (ws : List Str) : (Txt.join sep ws).length ≤ (ws.map (·.length)).sum + ws.length * sep.length := by
  show (Builtin.Str.glued sep ws).length ≤ _
  rw [StrLaws.glued_eq_join]
  exact StrLaws.join_length_le sep ws
theorem sum_le {m : Nat} : ∀ {ws : List Str}, (∀ z ∈ ws, z.length ≤ m) → (ws.map (·.length)).sum ≤ ws.length * m
  | [], _ => Nat.zero_le _
  | x :: r, h => by
    have h1 := h x List.mem_cons_self
    have h2 := sum_le (ws := r) fun z hz => h z (List.mem_cons_of_mem _ hz)
    rw [List.map_cons, List.sum_cons, List.length_cons, Nat.succ_mul]
    omega
theorem Kp.seq {K : PySem.W.Frag} {H H' : Hp} {p c a : Addr} {xs : List V} (e : Kp p c H H') (h1 : a ≠ p) (h2 : a ≠ c) (h : SqL K H a xs) : SqL K H' a xs := by
  rcases h with (h | ⟨o, h⟩) | h
  · exact .inl (.inl (e _ _ h1 h2 h))
  · exact .inl (.inr ⟨o, e _ _ h1 h2 h⟩)
  · exact .inr h
theorem op_powW {X : Cx} : OpR X (binaryOp .Pow) (rI (fun i j => 0 ≤ j ∧ (Builtin.Int.intBits i : Int) * j ≤ 2 ^ 27) fun i j => .int (i ^ j.toNat)) := opI fun _ _ _ _ _ _ _ hc q => pow_int hc.1 hc.2 q
theorem mem_at {α : Type} {xs : List α} {i : Int} (h0 : 0 ≤ i) (h1 : i < xs.length) : ∃ v, v ∈ xs ∧ atI xs i = some v := by
  obtain ⟨j, rfl⟩ : ∃ j : Nat, i = (j : Int) := ⟨i.toNat, by omega⟩
  have hj : j < xs.length := by omega
  exact ⟨xs[j], List.getElem_mem hj, atI_nat (List.getElem?_eq_getElem hj)⟩
theorem ints_shaped (cs : List Int) : SeqAt.shaped (.list (cs.map PyData.int)) = true := by
  have h1 : ∀ cs : List Int, PyData.canLayAll0 (cs.map PyData.int) = true := by
    intro cs
    induction cs with
    | nil => simp [PyData.canLayAll0]
    | cons x r ih => simp [PyData.canLayAll0, PyData.canLay0, ih]
  have h2 : ∀ cs : List Int, PyData.depthAll (cs.map PyData.int) ≤ 1 := by
    intro cs
    induction cs with
    | nil => simp [PyData.depthAll]
    | cons x r ih =>
      simp only [List.map_cons, PyData.depthAll, PyData.depth]
      omega
  show (PyData.canLay0 (.list (cs.map PyData.int)) && decide (PyData.depth (.list (cs.map PyData.int)) ≤ 64)) = true
  rw [Bool.and_eq_true]
  refine ⟨by simp only [PyData.canLay0]; exact h1 cs, decide_eq_true ?_⟩
  have h3 := h2 cs
  simp only [PyData.depth]
  omega
theorem ints_dp {K : PySem.W.Frag} {H : Hp} : ∀ cs : List Int, DpAll K H (cs.map V.int) (cs.map PyData.int)
  | [] => .nil
  | x :: r => .cons (.int x) (ints_dp r)
/-! ### the purse is made -/
abbrev sPurse : Stmt := topS 41
theorem scP : FnScope ["_law_script", "_law_cells", "_law_cell"] ["_law_script"] (defScope sPurse) := ⟨rfl, rfl, rfl, by decide +kernel, rfl, by decide +kernel, by decide +kernel⟩
def spPurse (K : PySem.W.Frag) : Sp := fun vs H Q _ => ∃ (a : Addr) (ns : List Int), vs = [.ref a] ∧ SqL K H a (ns.map V.int) ∧
  ∀ H' p c, Same H H' → H p = none → H c = none → Pur H' p c 0 → Q (.ref p) H'
theorem cut63 (xs : List V) : cutV xs none (some 63) = xs.take 63 := by
  unfold cutV
  rw [show HT.sIx xs.length 0 none = 0 from HT.sIx_none _ _, show HT.sIx xs.length xs.length (some 63) = min 63 xs.length from HT.sIx_nat xs.length xs.length 63, List.drop_zero, Nat.sub_zero]
  by_cases h : 63 ≤ xs.length
  · rw [Nat.min_eq_left h]
  · rw [Nat.min_eq_right (by omega), List.take_of_length_le (Nat.le_refl _), List.take_of_length_le (by omega)]
theorem big_pos : (0 : Int) < ((10 : Int) ^ (60 : Int).toNat) ^ (60 : Int).toNat := by decide +kernel
theorem big_eq : ((10 : Int) ^ (60 : Int).toNat) ^ (60 : Int).toNat = big := rfl
theorem eqv_nil : ∀ cs : List Int, PyData.eqv (.list (cs.map PyData.int)) (.list []) = decide (cs = [])
  | [] => by simp [PyData.eqv, PyData.eqvAll]
  | x :: r => by simp [PyData.eqv, PyData.eqvAll]
section
variable {P : Program} {w : World} {K : PySem.W.Frag} {mg : Str → Option Value} {base : Heap}
theorem ok_purse {f : Addr} {fd : FuncData} {k : Nat} (F : Fun K "_law_purse" "_law_purse" sPurse f fd) : FnOk P w K mg base CX0 (k + 1) f fd ["_law_script"] (spPurse K) := by
  refine F.ok scP (fun vs H Q E h => ?_) (fun cdv A outer s H vs Q E hr h => ?_)
  · obtain ⟨a, ns, rfl, _⟩ := h
    rfl
  · obtain ⟨a, ns, rfl, hS, q⟩ := h
    refine ⟨_, pss_cons (ps_setLc (i := 1) (own := [("_law_cell", 2)]) (g := gName 2) (tt := tYes) rfl scP.nd rfl rfl (sw_true rfl rfl rfl (by decide +kernel)) (pi_list (pe_slice sl_list (pv 0) po_none (po_some pe_int)))
        (blkOk_by (own := [("_law_cell", 2)]) (N := ["_law_script", "_law_cells", "_law_cell"]) (sc := defScope sPurse) (by decide +kernel)) (fun _ _ _ _ _ => pg_name (i := 2) scP.nd rfl (Or.inl rfl)) (fun _ _ _ _ _ => pts_nil)
        (fun _ _ _ _ _ => pe_op op_mod (pv 2) (pe_op op_powW (pe_op op_pow pe_int pe_int) pe_int)))
      (pss_cons (ps_if (pt_cmpR (op_eqD hr.units) (pv 1) (pe_lst pa_nil) (nomark _)) (pss_one (ps_set (i := 1) scP.nd rfl (.inl rfl) (pe_lst (pa_cons pe_int pa_nil)))) pss_nil)
      (pss_one (ps_ret (pe_lst (pa_cons (pv 1) (pa_cons pe_int pa_nil)))))), ?_⟩
    refine ⟨.ref a, rfl, 63, rfl, a, _, rfl, hS, fun l nl => ?_⟩
    have f1 : (upd H l (.lst (cutV (ns.map V.int) none (some 63)))) l = some (.lst ((ns.take 63).map V.int)) := by
      rw [upd_same, cut63, List.map_take]
    have s1 : Same H (upd H l (.lst (cutV (ns.map V.int) none (some 63)))) := same_upd nl
    generalize upd H l (.lst (cutV (ns.map V.int) none (some 63))) = H1 at f1 s1 ⊢
    refine ⟨l, rfl, ⟨_, SqL.of f1⟩, fun D nD => ?_⟩
    have nDl : l ≠ D := ne_of_none f1 nD
    have lm : (ns.take 63).length ≤ 63 := by
      rw [List.length_take]
      omega
    generalize ns.take 63 = M at f1 lm
    refine lc_list (K := K) (a := l) (xs := M.map V.int) (fun i H' => Same H H' ∧ H' l = some (.lst (M.map V.int)) ∧ H' D = some (.lst (((M.take i).map (· % big)).map V.int))) ⟨s1.trans (same_upd nD), ?_, ?_⟩ (fun i H' _ h => SqL.of h.2.1) (fun i x H' hx h => ?_) (fun H' h => ?_)
    · rw [upd_ne nDl]
      exact f1
    · rw [upd_same]
      rfl
    · obtain ⟨g1, g2, g3⟩ := h
      have hi : i < M.length := by
        have z := (List.getElem?_eq_some_iff.mp hx).1
        rw [List.length_map] at z
        exact z
      have ex : x = .int M[i] := by
        rw [List.getElem?_map, List.getElem?_eq_getElem hi] at hx
        exact (Option.some.inj hx).symm
      subst ex
      refine ⟨rfl, _, rfl, _, _, rfl, rfl, ⟨by decide, by decide, by decide⟩, _, _, rfl, rfl, ⟨by decide, by decide +kernel⟩, _, _, rfl, rfl, big_pos, _, g3, ?_, ?_, ?_, ?_⟩
      · rw [List.length_map, List.length_map, List.length_take]
        exact Nat.lt_of_le_of_lt (Nat.min_le_left _ _) (small1000 (by omega))
      · exact fun b o e => by
          rw [upd_ne (fun z => by rw [z] at e; have := g1; exact absurd (s1 _ _ e) (by rw [nD]; exact fun z => nomatch z))]
          exact g1 _ _ e
      · rw [upd_ne nDl]
        exact g2
      · rw [upd_same, List.take_add_one, List.getElem?_eq_getElem hi, List.map_append, List.map_append]
        rfl
    · obtain ⟨g1, g2, g3⟩ := h
      rw [List.length_map, List.take_of_length_le (Nat.le_refl _)] at g3
      have hD : H D = none := s1.free nD
      have bm : ∀ x ∈ M.map (· % big), 0 ≤ x ∧ x < big := fun x hx => by
        obtain ⟨y, _, rfl⟩ := List.mem_map.mp hx
        exact ⟨Int.emod_nonneg _ (Int.ne_of_gt big_pos), Int.emod_lt_of_pos _ big_pos⟩
      have lm2 : (M.map (· % big)).length ≤ 63 := by
        rw [List.length_map]
        exact lm
      generalize M.map (· % big) = cs at g3 bm lm2
      refine ⟨.ref D, rfl, Nat.zero_le _, fun e ne => ?_⟩
      have s2 : Same H' (upd H' e (.lst [])) := same_upd ne
      refine ⟨.list (cs.map PyData.int), .list [], .lst (SqL.of (s2 _ _ g3)) (ints_dp cs), .lst (SqL.of upd_same) .nil, ints_shaped cs, ints_shaped [], _, rfl, ite2 (fun z => ?_) (fun z => ?_)⟩
      · refine ⟨by decide, fun c nc => ?_⟩
        refine ⟨_, rfl, (by show 2 ≤ sizeLine; decide), fun p np => ?_⟩
        have s3 := (g1.trans s2).trans ((same_upd nc (o := .lst [.int 0])).trans (same_upd np (o := .lst [.ref c, .int 0])))
        refine q _ p c s3 (((g1.trans s2).trans (same_upd nc)).free np) ((g1.trans s2).free nc) ⟨[0], 0, upd_same, ?_, by decide, by decide, fun x hx => ?_, Int.le_refl _, Int.le_refl _⟩
        · rw [upd_ne (ne_of_none upd_same np)]
          exact upd_same
        · rw [List.mem_singleton.mp hx]
          exact ⟨Int.le_refl _, big_pos⟩
      · rw [eqv_nil] at z
        have z2 : cs ≠ [] := fun y => z (decide_eq_true y)
        refine ⟨_, rfl, (by show 2 ≤ sizeLine; decide), fun p np => ?_⟩
        have s3 := (g1.trans s2).trans (same_upd np (o := .lst [.ref D, .int 0]))
        refine q _ p D s3 ((g1.trans s2).free np) hD ⟨cs, 0, upd_same, (same_upd np) _ _ (s2 _ _ g3), List.length_pos_iff.mpr z2, lm2, bm, Int.le_refl _, Int.le_refl _⟩
end
end Cv
set_option Elab.async false
set_option linter.all false
set_option maxRecDepth 100000
set_option maxHeartbeats 4000000
namespace Cv
open PySem PySem.Spec PyProof.Rows L2
theorem Kp.free {p c D : Addr} {H H' : Hp} (e : Kp p c H H') (h1 : D ≠ p) (h2 : D ≠ c) (h : H' D = none) : H D = none := by
  cases q : H D with
  | none => rfl
  | some o =>
    rw [e D o h1 h2 q] at h
    cases h
/-! ### pick -/
abbrev sPick : Stmt := topS 43
theorem scK : FnScope ["_law_purse_here", "_law_some"] ["_law_purse_here", "_law_some"] (defScope sPick) := ⟨rfl, rfl, rfl, by decide +kernel, rfl, by decide +kernel, by decide +kernel⟩
/-- of a text a sign, of a list an item -/
def spPick (K : PySem.W.Frag) : Sp := fun vs H Q _ => ∃ (p c : Addr) (T : Nat) (x : V), vs = [.ref p, x] ∧ Pur H p c T ∧ T ≤ 1000000000 ∧
  ((∃ z : Str, x = .str z ∧ 0 < z.length ∧ z.length ≤ 1000 ∧ ∀ H' ch, ch ∈ z.cps.toList → Pur H' p c (T + 1) → Kp p c H H' → Q (.str ⟨#[ch]⟩) H') ∨
   (∃ (l : Addr) (xs : List V), x = .ref l ∧ l ≠ p ∧ l ≠ c ∧ SqL K H l xs ∧ 0 < xs.length ∧ xs.length ≤ 1000 ∧ ∀ H' v, v ∈ xs → Pur H' p c (T + 1) → Kp p c H H' → Q v H'))
section
variable {P : Program} {w : World} {K : PySem.W.Frag} {mg : Str → Option Value} {base : Heap}
theorem ok_pick {f fD : Addr} {fd fdD : FuncData} {k : Nat} (F : Fun K "_law_pick" "_law_pick" sPick f fd) (FD : Fun K "_law_draw" "_law_draw" sDraw fD fdD) (bD : Binds K fdD ["_law_purse_here", "_law_out_of"] []) (gD : mg "_law_draw" = some (.ref fD)) (ml : mg "len" = none) :
    FnOk P w K mg base CX0 (k + 2) f fd ["_law_purse_here", "_law_some"] (spPick K) := by
  have GD : FnOk P w K mg base CX0 (k + 1) fD fdD ["_law_purse_here", "_law_out_of"] spDraw := ok_draw FD ml
  refine F.ok scK (fun vs H Q E h => ?_) (fun cdv A outer s H vs Q E hr h => ?_)
  · obtain ⟨p, c, T, x, rfl, _⟩ := h
    rfl
  · obtain ⟨p, c, T, x, rfl, hP, hT, h⟩ := h
    refine ⟨_, pss_one (ps_ret (pe_ix ix_seq (pv 1) (pe_call GD hr (by rfl) gD FD.kp bD .nil pass0 (pa_cons (pv 0) (pa_cons (pe_callB call_len (by rfl) ml PySem.boot_len (pa_cons (pv 1) pa_nil)) pa_nil))) (fun _ _ => rfl))), ?_⟩
    rcases h with ⟨z, rfl, z0, z1, q⟩ | ⟨l, xs, rfl, l1, l2, hl, z0, z1, q⟩
    · have hz : z.length ≤ sizeLine := Nat.le_of_lt (small1000 z1)
      refine ⟨.str z, rfl, .ref p, rfl, .str z, rfl, _, z.length, rfl, ⟨hz, rfl⟩, p, c, T, _, rfl, hP, hT, by omega, by omega, fun H' r r0 r1 hP' hK => ?_⟩
      obtain ⟨ch, hm, ha⟩ := mem_at (xs := z.cps.toList) r0 (by rw [Array.length_toList]; exact r1)
      exact .inr (.inr ⟨z, r, ch, rfl, rfl, hz, ha, q H' ch hm hP' hK⟩)
    · refine ⟨.ref l, rfl, .ref p, rfl, .ref l, rfl, _, xs.length, rfl, .inl ⟨_, hl, rfl⟩, p, c, T, _, rfl, hP, hT, by omega, by omega, fun H' r r0 r1 hP' hK => ?_⟩
      obtain ⟨v, hm, ha⟩ := mem_at (xs := xs) r0 r1
      exact .inl ⟨l, xs, r, v, rfl, rfl, hK.seq l1 l2 hl, ha, q H' v hm hP' hK⟩
end
/-! ### word -/
abbrev sWord : Stmt := topS 44
theorem scW : FnScope ["_law_purse_here", "_law_most", "_law_size", "_law_sign"] ["_law_purse_here", "_law_most"] (defScope sWord) := ⟨rfl, rfl, rfl, by decide +kernel, rfl, by decide +kernel, by decide +kernel⟩
def letters : Str := "aabeknorst"
def spWord : Sp := fun vs H Q _ => ∃ (p c : Addr) (T : Nat) (m : Int), vs = [.ref p, .int m] ∧ Pur H p c T ∧ T ≤ 999999000 ∧ 2 ≤ m ∧ m ≤ 8 ∧
  ∀ H' (z : Str), 1 ≤ z.length → (z.length : Int) ≤ m → (∀ ch ∈ z.cps.toList, ch ∈ letters.cps.toList) → Pur H' p c (T + 10) → Kp p c H H' → Q (.str z) H'
/-- signs put together -/
theorem glued1 : ∀ cs : List Nat, Txt.join (Str.ofString "") (cs.map fun ch => (⟨#[ch]⟩ : Str)) = ⟨cs.toArray⟩ := by
  intro cs
  show Builtin.Str.glued _ _ = _
  rw [StrLaws.glued_eq_join]
  apply TL.ext_tl
  rw [TL.tl_join]
  show TL.joinL [] _ = _
  rw [List.map_map]
  show TL.joinL [] (cs.map fun ch => [ch]) = cs
  induction cs with
  | nil => rfl
  | cons x r ih =>
    cases r with
    | nil => rfl
    | cons y r =>
      show [x] ++ ([] ++ TL.joinL [] ((y :: r).map fun ch => [ch])) = _
      rw [ih]
      rfl
section
variable {P : Program} {w : World} {K : PySem.W.Frag} {mg : Str → Option Value} {base : Heap}
theorem ok_word {f fD fK : Addr} {fd fdD fdK : FuncData} {k : Nat} (F : Fun K "_law_word" "_law_word" sWord f fd) (FD : Fun K "_law_draw" "_law_draw" sDraw fD fdD) (bD : Binds K fdD ["_law_purse_here", "_law_out_of"] []) (gD : mg "_law_draw" = some (.ref fD))
    (FK : Fun K "_law_pick" "_law_pick" sPick fK fdK) (bK : Binds K fdK ["_law_purse_here", "_law_some"] []) (gK : mg "_law_pick" = some (.ref fK)) (ml : mg "len" = none) (mr : mg "range" = none) :
    FnOk P w K mg base CX0 (k + 3) f fd ["_law_purse_here", "_law_most"] spWord := by
  have GD : FnOk P w K mg base CX0 (k + 2) fD fdD ["_law_purse_here", "_law_out_of"] spDraw := ok_draw FD ml
  have GK : FnOk P w K mg base CX0 (k + 2) fK fdK ["_law_purse_here", "_law_some"] (spPick K) := ok_pick FK FD bD gD ml
  refine F.ok scW (fun vs H Q E h => ?_) (fun cdv A outer s H vs Q E hr h => ?_)
  · obtain ⟨p, c, T, x, rfl, _⟩ := h
    rfl
  · obtain ⟨p, c, T, m, rfl, hP, hT, m1, m2, q⟩ := h
    refine ⟨_, pss_cons (ps_set (i := 2) scW.nd rfl (.inl rfl) (pe_op op_add pe_int (pe_call GD hr (by rfl) gD FD.kp bD .nil pass0 (pa_cons (pv 0) (pa_cons (pe_ix ix_list (pe_lst (pa_cons pe_int (pa_cons (pv 1) pa_nil)))
        (pe_call GD hr (by rfl) gD FD.kp bD .nil pass0 (pa_cons (pv 0) (pa_cons pe_int pa_nil))) (fun _ _ => rfl)) pa_nil)))))
      (pss_one (ps_ret (pe_join pe_str (pe_lc (own := [("_law_sign", 3)]) (g := gName 3) (tt := tYes) rfl scW.nd (pi_range1 (by rfl) mr (pa_cons (pv 2) pa_nil))
        (blkOk_by (own := [("_law_sign", 3)]) (N := ["_law_purse_here", "_law_most", "_law_size", "_law_sign"]) (sc := defScope sWord) (by decide +kernel)) (fun _ _ _ _ _ => pg_name (i := 3) scW.nd rfl (Or.inl rfl)) (fun _ _ _ _ _ => pts_nil)
        (fun _ _ _ _ _ => pe_call GK hr (by rfl) gK FK.kp bK .nil pass0 (pa_cons (pv 0) (pa_cons pe_str pa_nil))))))), ?_⟩
    refine ⟨.ref p, rfl, _, rfl, (by show 2 ≤ sizeLine; decide), fun l nl => ?_⟩
    have hP1 := hP.same (same_upd nl (o := .lst [.int 2, .int m]))
    obtain ⟨nlp, nlc⟩ := hP.nep nl
    refine ⟨.ref p, rfl, p, c, T, 2, rfl, hP1, by omega, by decide, by decide, fun H1 r r0 r1 hP2 hK1 => ?_⟩
    have hl1 := hK1 l _ nlp nlc upd_same
    have k1 : Kp p c H H1 := (Kp.of (same_upd nl)).trans hK1
    obtain ⟨n, ha, n1, n2⟩ : ∃ n : Int, atI ([.int 2, .int m] : List V) r = some (.int n) ∧ 2 ≤ n ∧ n ≤ m := by
      have hr' : r = 0 ∨ r = 1 := by omega
      rcases hr' with rfl | rfl
      · exact ⟨2, rfl, by omega, m1⟩
      · exact ⟨m, rfl, m1, Int.le_refl _⟩
    refine ⟨l, _, r, .int n, rfl, rfl, SqL.of hl1, ha, p, c, T + 1, n, rfl, hP2, by omega, by omega, by omega, fun H2 g g0 g1 hP3 hK2 => ?_⟩
    refine ⟨1, g, rfl, rfl, ?_⟩
    refine ⟨⟨_, rfl⟩, _, rfl, 1 + g, rfl, by omega, by omega, fun D nD => ?_⟩
    have k2 : Kp p c H H2 := k1.trans hK2
    obtain ⟨dp, dc⟩ := hP3.nep nD
    have nD0 := k2.free dp dc nD
    refine lc_range (lo := 0) (n := (1 + g).toNat) (fun i H' => ∃ chs : List Nat, chs.length = i ∧ (∀ ch ∈ chs, ch ∈ letters.cps.toList) ∧ H' D = some (.lst ((chs.map fun ch => (⟨#[ch]⟩ : Str)).map V.str)) ∧ Pur H' p c (T + 2 + i) ∧ Kp p c H H')
      ⟨[], rfl, (fun _ h => absurd h List.not_mem_nil), upd_same, hP3.upd dp dc, k2.upd nD0⟩ (fun i H' hi h => ?_) (fun H' h => ?_)
    · obtain ⟨chs, rfl, hc, hD, hPi, hKi⟩ := h
      refine ⟨rfl, .ref p, rfl, p, c, _, _, rfl, hPi, by omega, .inl ⟨letters, rfl, by decide, by decide, fun H3 ch hm hP4 hK4 => ?_⟩⟩
      refine ⟨_, hK4 D _ dp dc hD, ?_, chs ++ [ch], by simp, ?_, ?_, (hP4.le (by omega)).upd dp dc, (hKi.trans hK4).upd nD0⟩
      · rw [List.length_map, List.length_map]
        exact small1000 (by omega)
      · intro x hx
        rcases List.mem_append.mp hx with hx | hx
        · exact hc x hx
        · rw [List.mem_singleton.mp hx]
          exact hm
      · rw [upd_same, List.map_append, List.map_append]
        rfl
    · obtain ⟨chs, hl, hc, hD, hPi, hKi⟩ := h
      refine ⟨_, D, chs.map fun ch => (⟨#[ch]⟩ : Str), rfl, rfl, .inl (SqL.of hD), ?_, ?_⟩
      · have e1 : ((chs.map fun ch => (⟨#[ch]⟩ : Str)).map (·.length)).sum ≤ (chs.map fun ch => (⟨#[ch]⟩ : Str)).length * 1 := sum_le fun z hz => by
          obtain ⟨ch, _, rfl⟩ := List.mem_map.mp hz
          exact Nat.le_refl _
        have e2 : (Str.ofString "").length = 0 := by decide
        rw [e2]
        rw [List.length_map] at e1
        omega
      · rw [glued1]
        have hz : (⟨chs.toArray⟩ : Str).length = chs.length := by simp [Str.length]
        exact q _ _ (by rw [hz]; omega) (by rw [hz]; omega) (by simpa using hc) (hPi.le (by omega)) hKi
end
end Cv
set_option Elab.async false
set_option linter.all false
set_option maxRecDepth 100000
set_option maxHeartbeats 4000000
namespace Cv
open PySem PySem.Spec PyProof.Rows L2
theorem flat_strs (ws : List Str) : (ws.map V.str).all flatV = true := by
  rw [List.all_map]
  exact List.all_eq_true.mpr fun _ _ => rfl
theorem inV_str (z : Str) (ws : List Str) : inV (.str z) (ws.map V.str) = decide (z ∈ ws) := by
  unfold inV
  rw [List.any_map, Bool.eq_iff_iff, List.any_eq_true, decide_eq_true_iff]
  constructor
  · rintro ⟨y, hy, h⟩
    have e : y = z := by
      have h2 : eqV (.str y) (.str z) = true := h
      simpa [eqV] using h2
    rw [← e]
    exact hy
  · intro h
    refine ⟨z, h, ?_⟩
    show eqV (.str z) (.str z) = true
    simp [eqV]
def isL (c : Nat) : Bool := decide (97 ≤ c) && decide (c ≤ 122)
def Lets (z : Str) : Prop := ∀ ch ∈ z.cps.toList, isL ch = true
theorem letters_l : ∀ ch ∈ letters.cps.toList, isL ch = true := by decide +kernel
/-- codes as they are drawn -/
def Ndz (ws : List Str) : Prop := ws.Nodup ∧ ("zzzz" : Str) ∉ ws
def GoodC (ws : List Str) : Prop := 2 ≤ ws.length ∧ ws.length ≤ 6 ∧ Ndz ws ∧ ∀ z ∈ ws, 1 ≤ z.length ∧ z.length ≤ 4 ∧ Lets z
/-- of the drawn letters alone -/
def Drawn (z : Str) : Prop := ∀ ch ∈ z.cps.toList, ch ∈ letters.cps.toList
theorem drawn_lets {z : Str} (h : Drawn z) : Lets z := fun ch hc => letters_l ch (h ch hc)
theorem not_drawn {z : Str} (h : Drawn z) (n : (122 : Nat) ∈ z.cps.toList) : False := by
  have := h _ n
  revert this
  decide +kernel
theorem tup_ne {H : Hp} {p c a : Addr} {T : Nat} {xs : List V} (h : Pur H p c T) (e : H a = some (.tup xs)) : a ≠ p ∧ a ≠ c := by
  obtain ⟨cs, k, hp, hc, _⟩ := h
  exact ⟨ne_of e hp (fun z => nomatch z), ne_of e hc (fun z => nomatch z)⟩
theorem nodup_snoc {α : Type} {l : List α} {x : α} (h : l.Nodup) (n : x ∉ l) : (l ++ [x]).Nodup := by
  rw [List.nodup_append]
  exact ⟨h, by simp, fun a ha b hb => by
    rw [List.mem_singleton.mp hb]
    exact fun z => n (z ▸ ha)⟩
/-! ### codes -/
abbrev sCodes : Stmt := topS 45
theorem scC : FnScope ["_law_purse_here", "_law_found", "_law_k", "_law_word_here"] ["_law_purse_here"] (defScope sCodes) := ⟨rfl, rfl, rfl, by decide +kernel, rfl, by decide +kernel, by decide +kernel⟩
def spCodes : Sp := fun vs H Q _ => ∃ (p c : Addr) (T : Nat), vs = [.ref p] ∧ Pur H p c T ∧ T ≤ 999990000 ∧
  ∀ H' t ws, H t = none → H' t = some (.tup (ws.map V.str)) → GoodC ws → Pur H' p c (T + 100) → Kp p c H H' → Q (.ref t) H'
section
variable {P : Program} {w : World} {K : PySem.W.Frag} {mg : Str → Option Value} {base : Heap}
/-- where the draws' defs stand -/
structure Dr (K : PySem.W.Frag) (mg : Str → Option Value) (fD fK fW : Addr) (fdD fdK fdW : FuncData) : Prop where
  FD : Fun K "_law_draw" "_law_draw" sDraw fD fdD
  bD : Binds K fdD ["_law_purse_here", "_law_out_of"] []
  gD : mg "_law_draw" = some (.ref fD)
  FK : Fun K "_law_pick" "_law_pick" sPick fK fdK
  bK : Binds K fdK ["_law_purse_here", "_law_some"] []
  gK : mg "_law_pick" = some (.ref fK)
  FW : Fun K "_law_word" "_law_word" sWord fW fdW
  bW : Binds K fdW ["_law_purse_here", "_law_most"] []
  gW : mg "_law_word" = some (.ref fW)
  ml : mg "len" = none
  mr : mg "range" = none
  mm : mg "max" = none
  mt : mg "tuple" = none
theorem ok_codes {f fD fK fW : Addr} {fd fdD fdK fdW : FuncData} {k : Nat} (F : Fun K "_law_codes" "_law_codes" sCodes f fd) (d : Dr K mg fD fK fW fdD fdK fdW) :
    FnOk P w K mg base CX0 (k + 4) f fd ["_law_purse_here"] spCodes := by
  have GD : FnOk P w K mg base CX0 (k + 3) fD fdD ["_law_purse_here", "_law_out_of"] spDraw := ok_draw d.FD d.ml
  have GW : FnOk P w K mg base CX0 (k + 3) fW fdW ["_law_purse_here", "_law_most"] spWord := ok_word d.FW d.FD d.bD d.gD d.FK d.bK d.gK d.ml d.mr
  refine F.ok scC (fun vs H Q E h => ?_) (fun cdv A outer s H vs Q E hr h => ?_)
  · obtain ⟨p, c, T, rfl, _⟩ := h
    rfl
  · obtain ⟨p, c, T, rfl, hP, hT, q⟩ := h
    refine ⟨_, pss_cons (ps_set (i := 1) scC.nd rfl (.inl rfl) (pe_lst pa_nil))
      (pss_cons (ps_for PassesOwn.never rfl (pi_range1 (by rfl) d.mr (pa_cons (pe_op op_add pe_int (pe_call GD hr (by rfl) d.gD d.FD.kp d.bD .nil pass0 (pa_cons (pv 0) (pa_cons pe_int pa_nil)))) pa_nil)) (pg_name (i := 2) scC.nd rfl (.inl rfl))
        (pss_cons (ps_set (i := 3) scC.nd rfl (.inl rfl) (pe_call GW hr (by rfl) d.gW d.FW.kp d.bW .nil pass0 (pa_cons (pv 0) (pa_cons pe_int pa_nil))))
          (pss_one (ps_if (pt_cmpR op_notIn_seq (pv 3) (pv 1) rfl)
            (pss_one (ps_expr (pe_bm PySem.F.plainAttrs_list PySem.F.slot_list_append PySem.F.type_list_append mt_append (pv 1) (pa_cons (pv 3) pa_nil)))) pss_nil))))
      (pss_one (ps_ret (pe_callTy call_tuple_of (by rfl) d.mt (by decide +kernel) (pa_cons (pe_op op_cat (pv 1)
        (pe_slice sl_list (pe_lst (pa_cons pe_str (pa_cons pe_str pa_nil))) po_none (po_some (pe_callB (call_max2 rfl) (by rfl) d.mm (by decide +kernel)
          (pa_cons pe_int (pa_cons (pe_op op_sub pe_int (pe_callB call_len_seq (by rfl) d.ml PySem.boot_len (pa_cons (pv 1) pa_nil))) pa_nil)))))) pa_nil))))), ?_⟩
    refine ⟨Nat.zero_le _, fun o no => ?_⟩
    obtain ⟨op', oc⟩ := hP.nep no
    have hP1 := hP.same (same_upd no (o := .lst []))
    refine ⟨.ref p, rfl, p, c, T, 5, rfl, hP1, by omega, by decide, by decide, fun H1 r r0 r1 hP2 hK1 => ?_⟩
    have k1 : Kp p c H H1 := (Kp.of (same_upd no)).trans hK1
    have ho1 := hK1 o _ op' oc upd_same
    refine ⟨2, r, rfl, rfl, 2 + r, rfl, by omega, by omega, ?_⟩
    refine for_range (lo := 0) (n := (2 + r).toNat) (fun i σ H' => ∃ y2 y3 ws, σ = [some (.ref p), some (.ref o), y2, y3] ∧ H' o = some (.lst (ws.map V.str)) ∧ ws.length ≤ i ∧ (1 ≤ i → 1 ≤ ws.length) ∧ ws.Nodup ∧ (∀ z ∈ ws, 1 ≤ z.length ∧ z.length ≤ 4 ∧ Drawn z) ∧ Pur H' p c (T + 1 + 10 * i) ∧ Kp p c H H')
      ⟨none, none, [], rfl, ho1, Nat.le_refl _, fun h => absurd h (by decide), List.nodup_nil, (fun _ h => absurd h List.not_mem_nil), hP2, k1⟩ (fun i σ H' hi h => ?_) (fun σ H' h => ?_)
    · obtain ⟨y2, y3, ws, rfl, ho, hw, hw1, hnd, hl, hPi, hKi⟩ := h
      refine ⟨.ref p, rfl, p, c, _, 4, rfl, hPi, by omega, by decide, by decide, fun H2 z z1 z2 z3 hP3 hK2 => ?_⟩
      have ho2 := hK2 o _ op' oc ho
      refine ⟨.str z, rfl, .ref o, rfl, o, _, rfl, .inl (SqL.of ho2), rfl, flat_strs ws, _, rfl, ite2 (fun e => ?_) (fun e => ?_)⟩
      · refine ⟨.ref o, rfl, .inl ⟨rfl, _, SqL.of ho2⟩, .str z, rfl, o, _, _, rfl, rfl, ho2, ?_, ?_⟩
        · rw [List.length_map]
          exact small1000 (by omega)
        · have nz : z ∉ ws := fun hz => by
            have e2 : (!inV (.str z) (ws.map V.str)) = true := e
            rw [inV_str, decide_eq_true hz] at e2
            cases e2
          refine ⟨_, _, ws ++ [z], rfl, ?_, ?_, ?_, nodup_snoc hnd nz, ?_, (hP3.le (by omega)).upd op' oc, (hKi.trans hK2).upd no⟩
          · rw [upd_same, List.map_append]
            rfl
          · rw [List.length_append]
            show ws.length + 1 ≤ i + 1
            omega
          · intro _
            rw [List.length_append]
            exact Nat.le_add_left _ _
          · intro y hy
            rcases List.mem_append.mp hy with hy | hy
            · exact hl y hy
            · rw [List.mem_singleton.mp hy]
              exact ⟨z1, by omega, z3⟩
      · have hz : z ∈ ws := by
          have e2 : ¬ (!inV (.str z) (ws.map V.str)) = true := e
          rw [inV_str] at e2
          by_cases hz : z ∈ ws
          · exact hz
          · rw [decide_eq_false hz] at e2
            exact absurd rfl e2
        exact ⟨_, _, ws, rfl, ho2, by omega, fun _ => List.length_pos_of_mem hz, hnd, hl, hP3.le (by omega), hKi.trans hK2⟩
    · obtain ⟨y2, y3, ws, rfl, ho, hw, hw1, hnd, hl, hPi, hKi⟩ := h
      refine ⟨.ref o, rfl, (by show 2 ≤ sizeLine; decide), fun l nl => ?_⟩
      have ho1 := (same_upd nl (o := .lst [.str "zz", .str "z"])) _ _ ho
      refine ⟨.ref o, rfl, o, _, rfl, .inl (SqL.of ho1), 2, _, rfl, rfl, 0, _, rfl, _, rfl, l, _, rfl, SqL.of upd_same, fun r nr => ?_⟩
      have hcut : ∃ us : List Str, cutV [V.str "zz", V.str "z"] none (some (if 2 - ((ws.map V.str).length : Int) > 0 then 2 - ((ws.map V.str).length : Int) else 0)) = us.map V.str ∧ GoodC (ws ++ us) := by
        have w1 : 1 ≤ ws.length := hw1 (by omega)
        have w6 : ws.length ≤ 6 := by omega
        have okw : ∀ z ∈ ws, 1 ≤ z.length ∧ z.length ≤ 4 ∧ Lets z := fun z hz => ⟨(hl z hz).1, (hl z hz).2.1, drawn_lets (hl z hz).2.2⟩
        rw [List.length_map]
        by_cases h2 : ws.length = 1
        · refine ⟨[("zz" : Str)], ?_, ?_⟩
          · rw [h2]
            rfl
          · refine ⟨by rw [List.length_append]; simp; omega, by rw [List.length_append]; simp; omega, ⟨nodup_snoc hnd fun z => not_drawn (hl _ z).2.2 (by decide +kernel), fun z => (List.mem_append.mp z).elim (fun z => not_drawn (hl _ z).2.2 (by decide +kernel)) (fun z => absurd (List.mem_singleton.mp z) (by decide +kernel))⟩, fun z hz => ?_⟩
            rcases List.mem_append.mp hz with hz | hz
            · exact okw z hz
            · rw [List.mem_singleton.mp hz]
              exact ⟨by decide, by decide, by unfold Lets; decide⟩
        · refine ⟨[], ?_, ?_⟩
          · rw [if_neg (by omega)]
            rfl
          · rw [List.append_nil]
            exact ⟨by omega, w6, ⟨hnd, fun z => not_drawn (hl _ z).2.2 (by decide +kernel)⟩, okw⟩
      obtain ⟨us, eu, gc⟩ := hcut
      have ul : ws.length + us.length ≤ 6 := by
        have := gc.2.1
        rw [List.length_append] at this
        exact this
      have ho2 := (same_upd nr (o := .lst (cutV [V.str "zz", V.str "z"] none (some (if 2 - ((ws.map V.str).length : Int) > 0 then 2 - ((ws.map V.str).length : Int) else 0))))) _ _ ho1
      refine ⟨o, r, _, us.map V.str, rfl, rfl, ho2, by rw [upd_same, eu], ?_, fun v nv => ?_⟩
      · rw [List.length_map, List.length_map]
        exact Nat.le_of_lt (small1000 (by omega))
      · refine ⟨v, _, rfl, .inl ⟨SqL.of upd_same, fun t nt => ?_⟩⟩
        have s4 := ((same_upd nl (o := .lst [.str "zz", .str "z"])).trans (same_upd nr (o := .lst (cutV [V.str "zz", V.str "z"] none (some (if 2 - ((ws.map V.str).length : Int) > 0 then 2 - ((ws.map V.str).length : Int) else 0)))))).trans (same_upd nv (o := .lst (ws.map V.str ++ us.map V.str)))
        have hP4 := hPi.same (s4.trans (same_upd nt (o := .tup (ws.map V.str ++ us.map V.str))))
        have hK4 := hKi.trans (Kp.of (s4.trans (same_upd nt (o := .tup (ws.map V.str ++ us.map V.str)))))
        obtain ⟨t1, t2⟩ := (hPi.same s4).nep nt
        refine q _ t (ws ++ us) ((hKi.trans (Kp.of s4)).free t1 t2 nt) ?_ gc (hP4.le (by omega)) hK4
        rw [upd_same, List.map_append]
end
end Cv
set_option Elab.async false
set_option linter.all false
set_option maxRecDepth 100000
set_option maxHeartbeats 4000000
namespace Cv
open PySem PySem.Spec PyProof.Rows L2
/-- a sort: a name and codes -/
def SortL (H : Hp) (v : V) (s : Str × List Str) : Prop := ∃ (a b : Addr), v = .ref a ∧ H a = some (.tup [.str s.1, .ref b]) ∧ H b = some (.tup (s.2.map V.str))
def GoodS (s : Str × List Str) : Prop := 1 ≤ s.1.length ∧ s.1.length ≤ 8 ∧ Lets s.1 ∧ GoodC s.2
theorem SortL.same {H H' : Hp} {v : V} {s : Str × List Str} (h : SortL H v s) (k : Same H H') : SortL H' v s := by
  obtain ⟨a, b, e, ha, hb⟩ := h
  exact ⟨a, b, e, k _ _ ha, k _ _ hb⟩
theorem SortL.keep {H H' : Hp} {p c : Addr} {T : Nat} {v : V} {s : Str × List Str} (h : SortL H v s) (hP : Pur H p c T) (k : Kp p c H H') : SortL H' v s := by
  obtain ⟨a, b, e, ha, hb⟩ := h
  obtain ⟨a1, a2⟩ := tup_ne hP ha
  obtain ⟨b1, b2⟩ := tup_ne hP hb
  exact ⟨a, b, e, k _ _ a1 a2 ha, k _ _ b1 b2 hb⟩
theorem paired_map {α β : Type} {R S : α → β → Prop} (h : ∀ x s, R x s → S x s) : ∀ {xs : List α} {ss : List β}, Paired R xs ss → Paired S xs ss
  | _, _, .nil => .nil
  | _, _, .cons a t => .cons (h _ _ a) (paired_map h t)
theorem paired_snoc {α β : Type} {R : α → β → Prop} {x : α} {s : β} (r : R x s) : ∀ {xs : List α} {ss : List β}, Paired R xs ss → Paired R (xs ++ [x]) (ss ++ [s])
  | _, _, .nil => .cons r .nil
  | _, _, .cons a t => .cons a (paired_snoc r t)
theorem paired_get {α β : Type} {R : α → β → Prop} : ∀ {xs : List α} {ss : List β} {i : Nat} {x : α}, Paired R xs ss → xs[i]? = some x → ∃ s, ss[i]? = some s ∧ R x s
  | _, _, i, x, .nil, e => by simp at e
  | _, _, 0, x, .cons a t, e => by
    simp at e
    subst e
    exact ⟨_, rfl, a⟩
  | _, _, i + 1, x, .cons a t, e => by
    rw [List.getElem?_cons_succ] at e
    obtain ⟨s, h1, h2⟩ := paired_get t e
    exact ⟨s, by rw [List.getElem?_cons_succ]; exact h1, h2⟩
theorem paired_len {α β : Type} {R : α → β → Prop} : ∀ {xs : List α} {ss : List β}, Paired R xs ss → xs.length = ss.length
  | _, _, .nil => rfl
  | _, _, .cons a t => by rw [List.length_cons, List.length_cons, paired_len t]
/-- the names that stand where one is there already -/
def zname : Nat → Str
  | 0 => "za"
  | 1 => "zb"
  | 2 => "zc"
  | _ => "zd"
theorem zname_inj0 : ∀ i, i < 4 → ∀ j, j < 4 → zname i = zname j → i = j := by decide +kernel
theorem zname_inj (i j : Nat) (hi : i < 4) (hj : j < 4) (e : zname i = zname j) : i = j := zname_inj0 i hi j hj e
theorem zname_z : ∀ i, i < 4 → (122 : Nat) ∈ (zname i).cps.toList := by decide +kernel
theorem zname_ok : ∀ i, i < 4 → 1 ≤ (zname i).length ∧ (zname i).length ≤ 8 ∧ (∀ ch ∈ (zname i).cps.toList, isL ch = true) := by decide +kernel
theorem zname_at : ∀ i, i < 4 → atI [V.str "za", V.str "zb", V.str "zc", V.str "zd"] ((i : Nat) : Int) = some (.str (zname i))
  | 0, _ => rfl
  | 1, _ => rfl
  | 2, _ => rfl
  | 3, _ => rfl
/-- the names so far -/
def NamesOk (i : Nat) (ns : List Str) : Prop := ns.Nodup ∧ ∀ n ∈ ns, Drawn n ∨ ∃ j, j < i ∧ n = zname j
theorem NamesOk.snoc {i : Nat} {ns : List Str} {z : Str} (h : NamesOk i ns) (n : z ∉ ns) (d : Drawn z ∨ z = zname i) : NamesOk (i + 1) (ns ++ [z]) := by
  refine ⟨nodup_snoc h.1 n, fun x hx => ?_⟩
  rcases List.mem_append.mp hx with hx | hx
  · rcases h.2 x hx with h | ⟨j, hj, e⟩
    · exact .inl h
    · exact .inr ⟨j, by omega, e⟩
  · rw [List.mem_singleton.mp hx]
    rcases d with d | d
    · exact .inl d
    · exact .inr ⟨i, by omega, d⟩
theorem NamesOk.fresh {i : Nat} {ns : List Str} (h : NamesOk i ns) (hi : i < 4) : zname i ∉ ns := fun m => by
  rcases h.2 _ m with d | ⟨j, hj, e⟩
  · exact not_drawn d (zname_z i hi)
  · have := zname_inj i j hi (by omega) e
    omega
def GoodP (ss : List (Str × List Str)) : Prop := 1 ≤ ss.length ∧ ss.length ≤ 4 ∧ (ss.map (·.1)).Nodup ∧ ∀ s ∈ ss, GoodS s
/-! ### plan -/
abbrev sPlan : Stmt := topS 46
abbrev nPlan : List Str := ["_law_purse_here", "_law_least", "_law_found", "_law_k", "_law_name", "_law_other", "_law_codes_here"]
theorem scN : FnScope nPlan ["_law_purse_here", "_law_least"] (defScope sPlan) := ⟨rfl, rfl, rfl, by decide +kernel, rfl, by decide +kernel, by decide +kernel⟩
def spPlan : Sp := fun vs H Q _ => ∃ (p c : Addr) (T : Nat) (l : Int), vs = [.ref p, .int l] ∧ 1 ≤ l ∧ l ≤ 4 ∧ Pur H p c T ∧ T ≤ 999900000 ∧
  ∀ H' t xs ss, H t = none → H' t = some (.tup xs) → l ≤ ss.length → Paired (SortL H') xs ss → GoodP ss → Pur H' p c (T + 1000) → Kp p c H H' → Q (.ref t) H'
section
variable {P : Program} {w : World} {K : PySem.W.Frag} {mg : Str → Option Value} {base : Heap}
theorem ok_plan {f fD fK fW fC : Addr} {fd fdD fdK fdW fdC : FuncData} {k : Nat} (F : Fun K "_law_plan" "_law_plan" sPlan f fd) (d : Dr K mg fD fK fW fdD fdK fdW) (FC : Fun K "_law_codes" "_law_codes" sCodes fC fdC) (bC : Binds K fdC ["_law_purse_here"] []) (gC : mg "_law_codes" = some (.ref fC)) :
    FnOk P w K mg base CX0 (k + 5) f fd ["_law_purse_here", "_law_least"] spPlan := by
  have GD : FnOk P w K mg base CX0 (k + 4) fD fdD ["_law_purse_here", "_law_out_of"] spDraw := ok_draw d.FD d.ml
  have GW : FnOk P w K mg base CX0 (k + 4) fW fdW ["_law_purse_here", "_law_most"] spWord := ok_word d.FW d.FD d.bD d.gD d.FK d.bK d.gK d.ml d.mr
  have GC : FnOk P w K mg base CX0 (k + 4) fC fdC ["_law_purse_here"] spCodes := ok_codes FC d
  refine F.ok scN (fun vs H Q E h => ?_) (fun cdv A outer s H vs Q E hr h => ?_)
  · obtain ⟨p, c, T, l, rfl, _⟩ := h
    rfl
  · obtain ⟨p, c, T, l, rfl, l1, l4, hP, hT, q⟩ := h
    refine ⟨_, pss_cons (ps_set (i := 2) scN.nd rfl (.inl rfl) (pe_lst pa_nil))
      (pss_cons (ps_for PassesOwn.never rfl (pi_range1 (by rfl) d.mr (pa_cons (pe_op op_add (pv 1) (pe_call GD hr (by rfl) d.gD d.FD.kp d.bD .nil pass0 (pa_cons (pv 0) (pa_cons (pe_op op_sub pe_int (pv 1)) pa_nil)))) pa_nil)) (pg_name (i := 3) scN.nd rfl (.inl rfl))
        (pss_cons (ps_set (i := 4) scN.nd rfl (.inl rfl) (pe_call GW hr (by rfl) d.gW d.FW.kp d.bW .nil pass0 (pa_cons (pv 0) (pa_cons pe_int pa_nil))))
        (pss_cons (ps_if (pt_cmpR op_in_seq (pv 4) (pe_lc (own := [("_law_other", 5), ("_law_codes_here", 6)]) (g := gTup K 2 (gCons (gName 5) (gCons (gName 6) gNil))) (tt := tYes) rfl scN.nd (pi_list (pv 2))
            (blkOk_by (own := [("_law_other", 5), ("_law_codes_here", 6)]) (N := nPlan) (sc := defScope sPlan) (by decide +kernel)) (fun _ _ _ _ _ => pg_tup rfl (pgs_cons (pg_name (i := 5) scN.nd rfl (Or.inl rfl)) (pgs_cons (pg_name (i := 6) scN.nd rfl (Or.inl rfl)) pgs_nil)))
            (fun _ _ _ _ _ => pts_nil) (fun _ _ _ _ _ => pv 5)) rfl)
          (pss_one (ps_set (i := 4) scN.nd rfl (.inl rfl) (pe_ix ix_list (pe_lst (pa_cons pe_str (pa_cons pe_str (pa_cons pe_str (pa_cons pe_str pa_nil))))) (pv 3) (fun _ _ => rfl)))) pss_nil)
        (pss_one (ps_expr (pe_bm PySem.F.plainAttrs_list PySem.F.slot_list_append PySem.F.type_list_append mt_append (pv 2) (pa_cons (pe_tup (pa_cons (pv 4) (pa_cons (pe_call GC hr (by rfl) gC FC.kp bC .nil pass0 (pa_cons (pv 0) pa_nil)) pa_nil))) pa_nil)))))))
      (pss_one (ps_ret (pe_callTy call_tuple_of (by rfl) d.mt (by decide +kernel) (pa_cons (pv 2) pa_nil))))), ?_⟩
    refine ⟨Nat.zero_le _, fun o no => ?_⟩
    obtain ⟨op', oc⟩ := hP.nep no
    have hP1 := hP.same (same_upd no (o := .lst []))
    refine ⟨.int l, rfl, .ref p, rfl, .int l, rfl, 5, l, rfl, rfl, p, c, T, 5 - l, rfl, hP1, by omega, by omega, by omega, fun H1 r r0 r1 hP2 hK1 => ?_⟩
    have k1 : Kp p c H H1 := (Kp.of (same_upd no)).trans hK1
    have ho1 := hK1 o _ op' oc upd_same
    refine ⟨l, r, rfl, rfl, l + r, rfl, by omega, by omega, ?_⟩
    refine for_range (lo := 0) (n := (l + r).toNat) (fun i σ H' => ∃ y3 y4 y5 y6 xs ss, σ = [some (.ref p), some (.int l), some (.ref o), y3, y4, y5, y6] ∧ H' o = some (.lst xs) ∧ xs.length = i ∧ Paired (SortL H') xs ss ∧ NamesOk i (ss.map (·.1)) ∧ (∀ s ∈ ss, GoodS s) ∧ Pur H' p c (T + 1 + 110 * i) ∧ Kp p c H H')
      ⟨none, none, none, none, [], [], rfl, ho1, rfl, .nil, ⟨List.nodup_nil, fun _ h => absurd h List.not_mem_nil⟩, (fun _ h => absurd h List.not_mem_nil), hP2, k1⟩ (fun i σ H' hi h => ?_) (fun σ H' h => ?_)
    · obtain ⟨y3, y4, y5, y6, xs, ss, rfl, ho, hw, hl, hnm, hgd, hPi, hKi⟩ := h
      refine ⟨.ref p, rfl, p, c, _, 8, rfl, hPi, by omega, by decide, by decide, fun H2 z z1 z2 z3 hP3 hK2 => ?_⟩
      have ho2 := hK2 o _ op' oc ho
      have hl2 : Paired (SortL H2) xs ss := paired_map (fun _ _ h => h.keep hPi hK2) hl
      have lss : ss.length = i := by rw [← paired_len hl]; exact hw
      have i4 : i < 4 := by omega
      refine ⟨.str z, rfl, .ref o, rfl, o, rfl, ⟨_, SqL.of ho2⟩, fun D nD => ?_⟩
      have nDo : o ≠ D := ne_of_none ho2 nD
      refine lc_list (K := K) (a := o) (xs := xs) (fun j H3 => Same H2 H3 ∧ H3 D = some (.lst (((ss.map (·.1)).take j).map V.str))) ⟨same_upd nD, upd_same⟩ (fun j H3 _ h => SqL.of (h.1 _ _ ho2)) (fun j x H3 hx h => ?_) (fun H3 h => ?_)
      · obtain ⟨h1, h2⟩ := h
        obtain ⟨sj, ej, a, b, rfl, ha, hb⟩ := paired_get hl2 hx
        have hj : j < xs.length := (List.getElem?_eq_some_iff.mp hx).1
        refine ⟨a, _, rfl, SqT.of (h1 _ _ ha), rfl, _, _, rfl, _, _, rfl, rfl, rfl, .str sj.1, rfl, _, h2, ?_, ?_, ?_⟩
        · rw [List.length_map, List.length_take]
          exact Nat.lt_of_le_of_lt (Nat.min_le_left _ _) (small1000 (by omega))
        · intro b' o' e
          rw [upd_ne (ne_of_none e nD)]
          exact h1 _ _ e
        · rw [upd_same, List.take_add_one, List.map_append, List.getElem?_map, ej]
          rfl
      · obtain ⟨h1, h2⟩ := h
        rw [List.take_of_length_le (by rw [List.length_map]; omega)] at h2
        refine ⟨D, _, rfl, .inl (SqL.of h2), rfl, flat_strs _, _, rfl, ?_⟩
        refine ite2 (fun e => ?_) (fun e => ?_)
        · refine ⟨(by show 4 ≤ sizeLine; decide), fun l nl => ?_⟩
          have hat : atI [V.str "za", V.str "zb", V.str "zc", V.str "zd"] (0 + (i : Nat) : Int) = some (.str (zname i)) := by
            rw [Int.zero_add]
            exact zname_at i i4
          obtain ⟨zn1, zn2, zn3⟩ := zname_ok i i4
          have nzn := hnm.fresh i4
          have dzn : ∀ x, x = zname i → Drawn x ∨ x = zname i := fun x e => .inr e
          generalize hzz : zname i = zn at hat zn1 zn2 zn3 nzn dzn
          refine ⟨_, rfl, l, _, _, .str zn, rfl, rfl, SqL.of upd_same, hat, ?_⟩
          have s24 : Same H2 _ := h1.trans (same_upd nl (o := .lst [V.str "za", V.str "zb", V.str "zc", V.str "zd"]))
          have hP4 := hP3.same s24
          have ho4 := s24 _ _ ho2
          refine ⟨.ref o, rfl, .inl ⟨rfl, _, SqL.of ho4⟩, .str zn, rfl, .ref p, rfl, p, c, _, rfl, hP4, by omega, fun H5 t ws nt hC gC hP5 hK5 => ?_⟩
          refine ⟨(by show 2 ≤ sizeLine; decide), fun u nu => ?_⟩
          have ho5 := hK5 o _ op' oc ho4
          have s56 : Same H5 (upd H5 u (.tup [.str zn, .ref t])) := same_upd nu
          have nuo : o ≠ u := ne_of_none ho5 nu
          refine ⟨o, _, _, rfl, rfl, s56 _ _ ho5, ?_, ?_⟩
          · exact small1000 (by omega)
          · have k5 : Kp p c H H5 := (hKi.trans hK2).trans ((Kp.of s24).trans hK5)
            obtain ⟨u1, u2⟩ := hP5.nep nu
            have P6 : Pur (upd H5 u (.tup [.str zn, .ref t])) p c (T + 1 + 110 * (i + 1)) := (hP5.same s56).le (by omega)
            have keepS : ∀ {v : V} {s : Str × List Str} {H9 : Hp} {xs' : List V}, H9 o = some (.lst xs) → SortL H9 v s → SortL (upd H9 o (.lst xs')) v s := fun {v s H9 xs'} e9 h => by
              obtain ⟨a, b, e, ha, hb⟩ := h
              exact ⟨a, b, e, by rw [upd_ne (ne_of ha e9 (fun z => nomatch z))]; exact ha, by rw [upd_ne (ne_of hb e9 (fun z => nomatch z))]; exact hb⟩
            refine ⟨_, _, _, _, xs ++ [.ref u], ss ++ [(zn, ws)], rfl, upd_same, ?_, paired_map (fun _ _ h => keepS (s56 _ _ ho5) h) (paired_snoc ⟨u, t, rfl, upd_same, s56 _ _ hC⟩ (paired_map (fun _ _ h => (((h.same s24).keep hP4 hK5).same s56)) hl2)), ?_, ?_, P6.upd op' oc, (k5.trans (Kp.of s56)).upd no⟩
            · rw [List.length_append]
              show xs.length + 1 = i + 1
              omega
            · rw [List.map_append]
              exact hnm.snoc nzn (hzz ▸ .inr rfl)
            · intro s' hs
              rcases List.mem_append.mp hs with hs | hs
              · exact hgd s' hs
              · rw [List.mem_singleton.mp hs]
                exact ⟨zn1, zn2, zn3, gC⟩
        · have nz0 : z ∉ ss.map (·.1) := fun hz => by
            have e2 : ¬ inV (.str z) ((ss.map (·.1)).map V.str) = true := e
            rw [inV_str, decide_eq_true hz] at e2
            exact e2 rfl
          have s24 : Same H2 _ := h1
          have hP4 := hP3.same s24
          have ho4 := s24 _ _ ho2
          refine ⟨.ref o, rfl, .inl ⟨rfl, _, SqL.of ho4⟩, .str z, rfl, .ref p, rfl, p, c, _, rfl, hP4, by omega, fun H5 t ws nt hC gC hP5 hK5 => ?_⟩
          refine ⟨(by show 2 ≤ sizeLine; decide), fun u nu => ?_⟩
          have ho5 := hK5 o _ op' oc ho4
          have s56 : Same H5 (upd H5 u (.tup [.str z, .ref t])) := same_upd nu
          have nuo : o ≠ u := ne_of_none ho5 nu
          refine ⟨o, _, _, rfl, rfl, s56 _ _ ho5, ?_, ?_⟩
          · exact small1000 (by omega)
          · have k5 : Kp p c H H5 := (hKi.trans hK2).trans ((Kp.of s24).trans hK5)
            obtain ⟨u1, u2⟩ := hP5.nep nu
            have P6 : Pur (upd H5 u (.tup [.str z, .ref t])) p c (T + 1 + 110 * (i + 1)) := (hP5.same s56).le (by omega)
            have keepS : ∀ {v : V} {s : Str × List Str} {H9 : Hp} {xs' : List V}, H9 o = some (.lst xs) → SortL H9 v s → SortL (upd H9 o (.lst xs')) v s := fun {v s H9 xs'} e9 h => by
              obtain ⟨a, b, e, ha, hb⟩ := h
              exact ⟨a, b, e, by rw [upd_ne (ne_of ha e9 (fun z => nomatch z))]; exact ha, by rw [upd_ne (ne_of hb e9 (fun z => nomatch z))]; exact hb⟩
            refine ⟨_, _, _, _, xs ++ [.ref u], ss ++ [(z, ws)], rfl, upd_same, ?_, paired_map (fun _ _ h => keepS (s56 _ _ ho5) h) (paired_snoc ⟨u, t, rfl, upd_same, s56 _ _ hC⟩ (paired_map (fun _ _ h => (((h.same s24).keep hP4 hK5).same s56)) hl2)), ?_, ?_, P6.upd op' oc, (k5.trans (Kp.of s56)).upd no⟩
            · rw [List.length_append]
              show xs.length + 1 = i + 1
              omega
            · rw [List.map_append]
              exact hnm.snoc nz0 (.inl z3)
            · intro s' hs
              rcases List.mem_append.mp hs with hs | hs
              · exact hgd s' hs
              · rw [List.mem_singleton.mp hs]
                exact ⟨z1, by show z.length ≤ 8; omega, drawn_lets z3, gC⟩
    · obtain ⟨y3, y4, y5, y6, xs, ss, rfl, ho, hw, hl, hnm, hgd, hPi, hKi⟩ := h
      refine ⟨.ref o, rfl, o, _, rfl, .inl ⟨SqL.of ho, fun t nt => ?_⟩⟩
      obtain ⟨t1, t2⟩ := hPi.nep nt
      have hls := paired_len hl
      exact q _ t xs ss (hKi.free t1 t2 nt) upd_same (by omega) (paired_map (fun _ _ h => h.same (same_upd nt)) hl) ⟨by omega, by omega, hnm.1, hgd⟩ ((hPi.same (same_upd nt)).le (by omega)) (hKi.trans (Kp.of (same_upd nt)))
end
end Cv
set_option Elab.async false
set_option linter.all false
set_option maxRecDepth 100000
set_option maxHeartbeats 4000000
namespace Cv
open PySem PySem.Spec PyProof.Rows L2
/-! ### small data -/
/-- what a tuple or a list weighs -/
abbrev tw : Nat := 200
mutual
/-- how long a thing is when shown, at most -/
def wt : PyData → Nat
  | .none => 4
  | .bool _ => 5
  | .int _ => 40
  | .str z => 10 * z.length + 2
  | .list ds => 200 + wts ds
  | .tuple ds => 200 + wts ds
  | .dict _ => 0
def wts : List PyData → Nat
  | [] => 0
  | d :: r => wt d + 2 + wts r
end
mutual
/-- no dicts, small numbers, plain signs -/
def pl : PyData → Bool
  | .none => true
  | .bool _ => true
  | .int i => decide (i.natAbs < 10 ^ 31)
  | .str z => z.cps.toList.all fun ch => decide (ch < 1000)
  | .list ds => pls ds
  | .tuple ds => pls ds
  | .dict _ => false
def pls : List PyData → Bool
  | [] => true
  | d :: r => pl d && pls r
end
theorem int_len {i : Int} (h : i.natAbs < 10 ^ 31) : (Str.ofString (toString i)).length ≤ 40 ∧ i.natAbs.log2 < 1920 := by
  refine ⟨?_, ?_⟩
  · have h2 := int_text_length_le10 (a := i) (k := 31) (by decide) h
    rw [PySem.ofString_length]
    omega
  · by_cases e : i.natAbs = 0
    · rw [e]
      decide
    · exact (Nat.log2_lt e).mpr (Nat.lt_of_lt_of_le h (by decide +kernel))
mutual
theorem shows : ∀ d : PyData, pl d = true → d.showable = true ∧ d.hasDict = false ∧ d.shown.length ≤ wt d ∧ 200 * d.depth ≤ wt d + 200
  | .none, _ => ⟨rfl, rfl, by decide, by simp only [PyData.depth]; omega⟩
  | .bool b, _ => by
    refine ⟨rfl, rfl, ?_, by simp only [PyData.depth]; omega⟩
    cases b <;> decide
  | .int i, h => by
    have h' : decide (i.natAbs < 10 ^ 31) = true := by simpa only [pl] using h
    obtain ⟨a1, a2⟩ := int_len (of_decide_eq_true h')
    refine ⟨by simp only [PyData.showable, decide_eq_true_iff]; exact a2, rfl, ?_, by simp only [PyData.depth]; omega⟩
    simp only [PyData.shown, wt]
    exact a1
  | .str z, h => by
    refine ⟨rfl, rfl, ?_, by simp only [PyData.depth]; omega⟩
    simp only [PyData.shown, wt]
    refine StrLaws.reprText_len z fun ch hc => ?_
    have h2 : (z.cps.toList.all fun ch => decide (ch < 1000)) = true := by simpa only [pl] using h
    have h3 := of_decide_eq_true (List.all_eq_true.mp h2 ch hc)
    have e : (16 : Nat) ^ 8 = 4294967296 := by decide
    omega
  | .list ds, h => by
    obtain ⟨h1, h2, h3, h4, h5⟩ := showsAll ds (by simpa only [pl] using h)
    have t := listText_len_le (PyData.shownAll ds)
    refine ⟨by simp only [PyData.showable]; exact h1, by simp only [PyData.hasDict]; exact h2, ?_, ?_⟩
    · simp only [PyData.shown, wt]
      omega
    · simp only [PyData.depth, wt]
      omega
  | .tuple ds, h => by
    obtain ⟨h1, h2, h3, h4, h5⟩ := showsAll ds (by simpa only [pl] using h)
    have t := tupleText_len_le (PyData.shownAll ds)
    refine ⟨by simp only [PyData.showable]; exact h1, by simp only [PyData.hasDict]; exact h2, ?_, ?_⟩
    · simp only [PyData.shown, wt]
      omega
    · simp only [PyData.depth, wt]
      omega
  | .dict _, h => absurd (show false = true by simpa only [pl] using h) Bool.false_ne_true
theorem showsAll : ∀ ds : List PyData, pls ds = true → PyData.showableAll ds = true ∧ PyData.hasDictAll ds = false ∧ ((PyData.shownAll ds).map (·.length)).sum + 2 * (PyData.shownAll ds).length ≤ wts ds ∧ 200 * PyData.depthAll ds ≤ wts ds + 200 ∧ (PyData.shownAll ds).length = ds.length
  | [], _ => by simp [PyData.showableAll, PyData.hasDictAll, PyData.shownAll, PyData.depthAll, wts]
  | d :: r, h => by
    have h' : pl d = true ∧ pls r = true := by simpa [pls] using h
    obtain ⟨a1, a2, a3, a4⟩ := shows d h'.1
    obtain ⟨b1, b2, b3, b4, b5⟩ := showsAll r h'.2
    refine ⟨by simp only [PyData.showableAll, a1, b1, Bool.and_self], by simp only [PyData.hasDictAll, a2, b2, Bool.or_self], ?_, ?_, by simp only [PyData.shownAll, List.length_cons, b5]⟩
    · simp only [PyData.shownAll, List.map_cons, List.sum_cons, List.length_cons, wts]
      omega
    · simp only [PyData.depthAll, wts]
      omega
end
theorem wt_mem {d : PyData} : ∀ {ds : List PyData}, d ∈ ds → wt d + 2 ≤ wts ds
  | x :: r, h => by
    rw [wts]
    rcases List.mem_cons.mp h with e | h
    · rw [e]
      omega
    · have := wt_mem h
      omega
theorem pl_mem {d : PyData} : ∀ {ds : List PyData}, pls ds = true → d ∈ ds → pl d = true
  | x :: r, hp, h => by
    have h' : pl x = true ∧ pls r = true := by simpa [pls] using hp
    rcases List.mem_cons.mp h with e | h
    · rw [e]
      exact h'.1
    · exact pl_mem h'.2 h
theorem pls_of : ∀ {ds : List PyData}, (∀ d ∈ ds, pl d = true) → pls ds = true
  | [], _ => rfl
  | x :: r, h => by
    rw [pls, h x List.mem_cons_self, pls_of fun d hd => h d (List.mem_cons_of_mem _ hd)]
    rfl
theorem wts_of {n : Nat} : ∀ {ds : List PyData}, (∀ d ∈ ds, wt d ≤ n) → wts ds ≤ ds.length * (n + 2)
  | [], _ => by simp [wts]
  | x :: r, h => by
    have h1 := h x List.mem_cons_self
    have h2 := wts_of fun d hd => h d (List.mem_cons_of_mem _ hd)
    rw [wts, List.length_cons, Nat.add_mul]
    omega
/-! ### what a plan is -/
def isWordD (m : Nat) : PyData → Bool
  | .str z => decide (1 ≤ z.length) && (decide (z.length ≤ m) && z.cps.toList.all isL)
  | _ => false
def strOf : PyData → Str
  | .str z => z
  | _ => ""
def unlikeD (cs : List PyData) : Bool := cs.all (isWordD 4) && decide ((cs.map strOf).Nodup)
def isSortD : PyData → Bool
  | .tuple [n, .tuple cs] => isWordD 8 n && (decide (2 ≤ cs.length) && (decide (cs.length ≤ 6) && unlikeD cs))
  | _ => false
def firstK (n : Nat) (p : Nat → Bool) : Option Nat := (List.range n).find? p
def nameOf : PyData → Str
  | .tuple (n :: _) => strOf n
  | _ => ""
def twiceAt (ns : List Str) (k : Nat) : Bool := decide (ns.getD k "" ∈ ns.take k)
def notSort (ds : List PyData) (k : Nat) : Bool := !isSortD (ds.getD k .none)
def wrongDs (ds : List PyData) : PyData := if 1 ≤ ds.length ∧ ds.length ≤ 4 then
    (match firstK ds.length (notSort ds) with
    | some k => .tuple [.str "sort", .int k]
    | none => (match firstK ds.length (twiceAt (ds.map nameOf)) with
      | some k => .tuple [.str "twice", .int k]
      | none => .none)) else .tuple [.str "plan"]
def wrongD : PyData → PyData
  | .tuple ds => wrongDs ds
  | _ => .tuple [.str "plan"]
theorem word_str {m : Nat} {d : PyData} (h : isWordD m d = true) : ∃ z : Str, d = .str z ∧ 1 ≤ z.length ∧ z.length ≤ m ∧ Lets z := by
  cases d with
  | str z =>
    have h' : (decide (1 ≤ z.length) && (decide (z.length ≤ m) && z.cps.toList.all isL)) = true := h
    rw [Bool.and_eq_true, Bool.and_eq_true, decide_eq_true_iff, decide_eq_true_iff] at h'
    exact ⟨z, rfl, h'.1, h'.2.1, fun ch hc => List.all_eq_true.mp h'.2.2 ch hc⟩
  | _ => cases h
theorem words_strs {m : Nat} : ∀ {ds : List PyData}, ds.all (isWordD m) = true → ds = (ds.map strOf).map PyData.str
  | [], _ => rfl
  | d :: r, h => by
    have h' : isWordD m d = true ∧ r.all (isWordD m) = true := by simpa using h
    obtain ⟨z, e, _⟩ := word_str h'.1
    rw [List.map_cons, List.map_cons, ← words_strs h'.2, e]
    rfl
theorem sort_of {d : PyData} (h : isSortD d = true) : ∃ (z : Str) (cs : List Str), d = .tuple [.str z, .tuple (cs.map PyData.str)] ∧ z.length ≤ 8 ∧ Lets z ∧ 2 ≤ cs.length ∧ cs.length ≤ 6 ∧ (∀ c ∈ cs, c.length ≤ 4 ∧ Lets c) := by
  unfold isSortD at h
  split at h
  · rename_i n cs
    rw [Bool.and_eq_true, Bool.and_eq_true, Bool.and_eq_true, decide_eq_true_iff, decide_eq_true_iff] at h
    obtain ⟨h1, h2, h3, h4⟩ := h
    obtain ⟨z, rfl, _, z1, z2⟩ := word_str h1
    unfold unlikeD at h4
    rw [Bool.and_eq_true] at h4
    have e := words_strs h4.1
    refine ⟨z, cs.map strOf, by rw [← e], z1, z2, by rw [List.length_map]; exact h2, by rw [List.length_map]; exact h3, fun c hc => ?_⟩
    obtain ⟨d, hd, rfl⟩ := List.mem_map.mp hc
    obtain ⟨y, rfl, _, y1, y2⟩ := word_str (List.all_eq_true.mp h4.1 d hd)
    exact ⟨y1, y2⟩
  · cases h
/-- what stays when tables grow and new things are laid -/
structure Ky (H H' : Hp) : Prop where
  ob : ∀ a o, (∀ ps, o ≠ HO.tbl ps) → H a = some o → H' a = some o
  tb : ∀ a, GxR.TabG H a → GxR.TabG H' a
instance {H H' : Hp} : CoeFun (Ky H H') (fun _ => ∀ a o, (∀ ps, o ≠ HO.tbl ps) → H a = some o → H' a = some o) := ⟨Ky.ob⟩
theorem Ky.refl {H : Hp} : Ky H H := ⟨fun _ _ _ h => h, fun _ h => h⟩
theorem Ky.trans {H H1 H2 : Hp} (x : Ky H H1) (y : Ky H1 H2) : Ky H H2 := ⟨fun a o n h => y a o n (x a o n h), fun a h => y.tb a (x.tb a h)⟩
theorem Ky.of {H H1 : Hp} (x : Same H H1) : Ky H H1 := ⟨fun a o _ h => x a o h, fun a ⟨ps, h, r⟩ => ⟨ps, x _ _ h, r⟩⟩
theorem Ky.sqT {K : PySem.W.Frag} {H H' : Hp} {a : Addr} {xs : List V} (k : Ky H H') (h : SqT K H a xs) : SqT K H' a xs := by
  rcases h with (h | ⟨o, h⟩) | h
  · exact .inl (.inl (k a _ (fun _ z => nomatch z) h))
  · exact .inl (.inr ⟨o, k a _ (fun _ z => nomatch z) h⟩)
  · exact .inr h
theorem Ky.sqL {K : PySem.W.Frag} {H H' : Hp} {a : Addr} {xs : List V} (k : Ky H H') (h : SqL K H a xs) : SqL K H' a xs := by
  rcases h with (h | ⟨o, h⟩) | h
  · exact .inl (.inl (k a _ (fun _ z => nomatch z) h))
  · exact .inl (.inr ⟨o, k a _ (fun _ z => nomatch z) h⟩)
  · exact .inr h
mutual
theorem Ky.dp {K : PySem.W.Frag} {H H' : Hp} (k : Ky H H') : ∀ (d : PyData) (v : V), Dp K H v d → Dp K H' v d
  | .none, _, h => by cases h; exact .non
  | .bool b, _, h => by cases h; exact .bl b
  | .int i, _, h => by cases h; exact .int i
  | .str z, _, h => by cases h; exact .str z
  | .list ds, _, h => by
    cases h with
    | lst a b => exact .lst (k.sqL a) (Ky.dpAll k ds _ b)
  | .tuple ds, _, h => by
    cases h with
    | tup a b => exact .tup (k.sqT a) (Ky.dpAll k ds _ b)
  | .dict _, _, h => by cases h
theorem Ky.dpAll {K : PySem.W.Frag} {H H' : Hp} (k : Ky H H') : ∀ (ds : List PyData) (vs : List V), DpAll K H vs ds → DpAll K H' vs ds
  | [], _, h => by cases h; exact .nil
  | d :: ds, _, h => by
    cases h with
    | cons a b => exact .cons (Ky.dp k d _ a) (Ky.dpAll k ds _ b)
end
theorem dpAll_len {K : PySem.W.Frag} {H : Hp} : ∀ {ds : List PyData} {vs : List V}, DpAll K H vs ds → vs.length = ds.length
  | [], _, h => by cases h; rfl
  | d :: ds, _, h => by
    cases h with
    | cons a b => rw [List.length_cons, List.length_cons, dpAll_len b]
theorem dpAll_get {K : PySem.W.Frag} {H : Hp} : ∀ {ds : List PyData} {vs : List V} {i : Nat} {v : V}, DpAll K H vs ds → vs[i]? = some v → ∃ d, ds[i]? = some d ∧ Dp K H v d
  | [], _, i, v, h, e => by
    cases h
    simp at e
  | d :: ds, _, 0, v, h, e => by
    cases h with
    | cons a b =>
      simp at e
      subst e
      exact ⟨d, rfl, a⟩
  | d :: ds, _, i + 1, v, h, e => by
    cases h with
    | cons a b =>
      rw [List.getElem?_cons_succ] at e
      obtain ⟨d', h1, h2⟩ := dpAll_get b e
      exact ⟨d', by rw [List.getElem?_cons_succ]; exact h1, h2⟩
theorem dpAll_mem {K : PySem.W.Frag} {H : Hp} {ds : List PyData} {vs : List V} {v : V} (h : DpAll K H vs ds) (hv : v ∈ vs) : ∃ d, d ∈ ds ∧ Dp K H v d := by
  obtain ⟨i, hi, e⟩ := List.mem_iff_getElem.mp hv
  obtain ⟨d, hd, r⟩ := dpAll_get h (show vs[i]? = some v by rw [List.getElem?_eq_getElem hi, e])
  exact ⟨d, List.mem_of_getElem? hd, r⟩
/-- a value that stands for small data -/
def Good (K : PySem.W.Frag) (n : Nat) (v : V) (H : Hp) : Prop := ∃ d, Dp K H v d ∧ pl d = true ∧ wt d ≤ n
theorem Good.ky {K : PySem.W.Frag} {n : Nat} {v : V} {H H' : Hp} (h : Good K n v H) (k : Ky H H') : Good K n v H' := by
  obtain ⟨d, h1, h2⟩ := h
  exact ⟨d, k.dp d v h1, h2⟩
theorem Good.le {K : PySem.W.Frag} {n m : Nat} {v : V} {H : Hp} (h : Good K n v H) (l : n ≤ m) : Good K m v H := by
  obtain ⟨d, h1, h2, h3⟩ := h
  exact ⟨d, h1, h2, by omega⟩
theorem goods {K : PySem.W.Frag} {n : Nat} {H : Hp} : ∀ {xs : List V}, (∀ x ∈ xs, Good K n x H) → ∃ ds, DpAll K H xs ds ∧ pls ds = true ∧ wts ds ≤ xs.length * (n + 2)
  | [], _ => ⟨[], .nil, rfl, by simp [wts]⟩
  | x :: r, h => by
    obtain ⟨d, h1, h2, h3⟩ := h x List.mem_cons_self
    obtain ⟨ds, g1, g2, g3⟩ := goods fun y hy => h y (List.mem_cons_of_mem _ hy)
    refine ⟨d :: ds, .cons h1 g1, by rw [pls, h2, g2]; rfl, ?_⟩
    rw [wts, List.length_cons, Nat.add_mul]
    omega
theorem good_tup {K : PySem.W.Frag} {n m : Nat} {H : Hp} {a : Addr} {xs : List V} (ha : SqT K H a xs) (h : ∀ x ∈ xs, Good K n x H) (l : 200 + xs.length * (n + 2) ≤ m) : Good K m (.ref a) H := by
  obtain ⟨ds, g1, g2, g3⟩ := goods h
  exact ⟨.tuple ds, .tup ha g1, by rw [pl]; exact g2, by rw [wt]; omega⟩
theorem good_lst {K : PySem.W.Frag} {n m : Nat} {H : Hp} {a : Addr} {xs : List V} (ha : SqL K H a xs) (h : ∀ x ∈ xs, Good K n x H) (l : 200 + xs.length * (n + 2) ≤ m) : Good K m (.ref a) H := by
  obtain ⟨ds, g1, g2, g3⟩ := goods h
  exact ⟨.list ds, .lst ha g1, by rw [pl]; exact g2, by rw [wt]; omega⟩
theorem lets_pl {z : Str} (h : Lets z) : pl (.str z) = true := by
  rw [pl, List.all_eq_true]
  intro ch hc
  have := h ch hc
  unfold isL at this
  rw [Bool.and_eq_true, decide_eq_true_iff, decide_eq_true_iff] at this
  exact decide_eq_true (by omega)
/-- a list's own first that is so -/
theorem firstK_none {n : Nat} {p : Nat → Bool} (h : ∀ k, k < n → p k = false) : firstK n p = none := by
  unfold firstK
  rw [List.find?_eq_none]
  intro k hk
  rw [h k (List.mem_range.mp hk)]
  exact Bool.false_ne_true
theorem firstK_some {n k : Nat} {p : Nat → Bool} (hk : k < n) (hp : p k = true) (h : ∀ j, j < k → p j = false) : firstK n p = some k := by
  unfold firstK
  rw [List.find?_range_eq_some]
  exact ⟨hp, List.mem_range.mpr hk, fun j hj => by rw [h j hj]; rfl⟩
theorem firstK_filter (n : Nat) (p : Nat → Bool) : firstK n p = ((List.range n).filter p).head? := List.head?_filter.symm
end Cv
set_option Elab.async false
set_option linter.all false
set_option maxRecDepth 100000
set_option maxHeartbeats 4000000
namespace Cv
open PySem PySem.Spec PyProof.Rows L2
/-! ### a def whose own code object is known -/
structure FunC (K : PySem.W.Frag) (x qual : Str) (st : Stmt) (f c : Addr) (fd : FuncData) : Prop where
  ex : ∃ (oc : Value) (od : Option Addr) (kV doc pm : Value) (an : Option Addr) (ct : Value) (osl : Array (Option Value)),
    fd = PySem.W.fnOf x qual (defArgs st) (defBody st) (defScope st) .none kV doc pm an (.ref c) ct ∧ K.lookup f = some ⟨oc, od, .func fd, osl⟩ ∧ PySem.W.codeIn K (.ref c) qual = true
  kp : PySem.W.keepIn K (.ref f) = true
section
variable {P : Program} {w : World} {K : PySem.W.Frag} {mg : Str → Option Value} {base : Heap}
theorem FunC.ok {x qual : Str} {st : Stmt} {f c : Addr} {fd : FuncData} {N ps : List Str} {k : Nat} {sp : Sp} (F : FunC K x qual st f c fd) (S : FnScope N ps (defScope st)) (len : ∀ vs H Q E, sp vs H Q E → vs.length = ps.length)
    (body : ∀ (A : Around) (outer : List Env) (s : Shared) (H : Hp) (vs : List V) (Q : VK) (E : XK), Room k (A.deeper (envOfC qual (defScope st) s.heap.objs.size f (.ref c))) → sp vs H Q E →
      ∃ t, PSs (cxOf CX0 P w K mg base N qual (defScope st) f (.ref c) A outer s H E).nox (defBody st) t ∧ t { nx := fun _ H' => Q .non H', rt := Q } (start N vs) H) : FnOk P w K mg base CX0 (k + 1) f fd ps sp := by
  obtain ⟨oc, od, kV, doc, pm, an, ct, osl, rfl, lk, hcd⟩ := F.ex
  refine fn_of lk hcd S len fun A outer s H vs Q E hr hsp => ?_
  obtain ⟨t, h, q⟩ := body A outer s H vs Q E hr hsp
  exact ⟨t, h.nox, q⟩
end
/-! ### kinds of data -/
def tyD : PyData → String
  | .none => "NoneType"
  | .bool _ => "bool"
  | .int _ => "int"
  | .str _ => "str"
  | .list _ => "list"
  | .tuple _ => "tuple"
  | .dict _ => "dict"
def isS : PyData → Bool
  | .str _ => true
  | _ => false
def isT : PyData → Bool
  | .tuple _ => true
  | _ => false
theorem ty_dp {K : PySem.W.Frag} {H : Hp} {v : V} {d : PyData} (h : Dp K H v d) : TyX K H v (.type (tyD d)) := by
  cases h with
  | non => exact .base .non
  | bl b => exact .base (.bl b)
  | int i => exact .base (.int i)
  | str z => exact .base (.str z)
  | lst a _ =>
    rcases a with (a | ⟨o, a⟩) | ⟨o, _, _, a, b, _⟩
    · exact .base (.lst a)
    · exact .base (.frz a)
    · exact .kList a b
  | tup a _ =>
    rcases a with (a | ⟨o, a⟩) | ⟨o, _, _, a, b, _⟩
    · exact .base (.tup a)
    · exact .fTuple a
    · exact .kTuple a b
theorem kit_s : ∀ d : PyData, kitB (tyD d) "str" = some (isS d)
  | .none => show kitB "NoneType" "str" = some false by decide +kernel
  | .bool _ => show kitB "bool" "str" = some false by decide +kernel
  | .int _ => show kitB "int" "str" = some false by decide +kernel
  | .str _ => show kitB "str" "str" = some true by decide +kernel
  | .list _ => show kitB "list" "str" = some false by decide +kernel
  | .tuple _ => show kitB "tuple" "str" = some false by decide +kernel
  | .dict _ => show kitB "dict" "str" = some false by decide +kernel
theorem kit_t : ∀ d : PyData, kitB (tyD d) "tuple" = some (isT d)
  | .none => show kitB "NoneType" "tuple" = some false by decide +kernel
  | .bool _ => show kitB "bool" "tuple" = some false by decide +kernel
  | .int _ => show kitB "int" "tuple" = some false by decide +kernel
  | .str _ => show kitB "str" "tuple" = some false by decide +kernel
  | .list _ => show kitB "list" "tuple" = some false by decide +kernel
  | .tuple _ => show kitB "tuple" "tuple" = some true by decide +kernel
  | .dict _ => show kitB "dict" "tuple" = some false by decide +kernel
/-! ### the tables -/
def Tabs (P1 P2 : Addr) (H : Hp) : Prop := GxR.TabG H P1 ∧ GxR.TabG H P2
def Tx (P1 P2 : Addr) (H H' : Hp) : Prop := Tabs P1 P2 H' ∧ Ky H H'
theorem Tx.refl {P1 P2 : Addr} {H : Hp} (h : Tabs P1 P2 H) : Tx P1 P2 H H := ⟨h, Ky.refl⟩
theorem Tx.trans {P1 P2 : Addr} {H H1 H2 : Hp} (x : Tx P1 P2 H H1) (y : Tx P1 P2 H1 H2) : Tx P1 P2 H H2 := ⟨y.1, x.2.trans y.2⟩
theorem tab_ne {P : Addr} {H : Hp} (h : GxR.TabG H P) {a : Addr} {o : HO} (n : ∀ ps, o ≠ HO.tbl ps) (e : H a = some o) : a ≠ P := fun z => by
  obtain ⟨ps, hp, _⟩ := h
  rw [z, hp] at e
  exact n ps (Option.some.inj e).symm
theorem tab_stay {P : Addr} {H H' : Hp} (t : GxR.Tabbed P H H') (a : Addr) (h : GxR.TabG H a) : GxR.TabG H' a := by
  by_cases z : a = P
  · rw [z]
    exact t.1
  · obtain ⟨ps, hp, r⟩ := h
    exact ⟨ps, by rw [t.2 a z]; exact hp, r⟩
theorem tx_tab1 {P1 P2 : Addr} {H H' : Hp} (h : Tabs P1 P2 H) (t : GxR.Tabbed P1 H H') : Tx P1 P2 H H' := by
  refine ⟨⟨t.1, ?_⟩, ⟨fun a o n e => ?_, tab_stay t⟩⟩
  · by_cases z : P2 = P1
    · rw [z]
      exact t.1
    · obtain ⟨ps, hp, r⟩ := h.2
      exact ⟨ps, by rw [t.2 P2 z]; exact hp, r⟩
  · rw [t.2 a (tab_ne h.1 n e)]
    exact e
theorem tx_tab2 {P1 P2 : Addr} {H H' : Hp} (h : Tabs P1 P2 H) (t : GxR.Tabbed P2 H H') : Tx P1 P2 H H' := by
  refine ⟨⟨?_, t.1⟩, ⟨fun a o n e => ?_, tab_stay t⟩⟩
  · by_cases z : P1 = P2
    · rw [z]
      exact t.1
    · obtain ⟨ps, hp, r⟩ := h.1
      exact ⟨ps, by rw [t.2 P1 z]; exact hp, r⟩
  · rw [t.2 a (tab_ne h.2 n e)]
    exact e
theorem Tabs.same {P1 P2 : Addr} {H H' : Hp} (h : Tabs P1 P2 H) (s : Same H H') : Tabs P1 P2 H' := by
  obtain ⟨⟨ps, hp, r⟩, qs, hq, r2⟩ := h
  exact ⟨⟨ps, s _ _ hp, r⟩, qs, s _ _ hq, r2⟩
theorem Tx.of {P1 P2 : Addr} {H H' : Hp} (h : Tabs P1 P2 H) (s : Same H H') : Tx P1 P2 H H' := ⟨h.same s, .of s⟩
/-! ### a small letter -/
abbrev sSl : Stmt := topS 10
theorem scSl : FnScope ["sign"] ["sign"] (defScope sSl) := ⟨rfl, rfl, rfl, by decide +kernel, rfl, by decide +kernel, by decide +kernel⟩
def spSl : Sp := fun vs H Q _ => ∃ ch : Nat, vs = [.str ⟨#[ch]⟩] ∧ Q (.bl (isL ch)) H
theorem lt1 (a b : Nat) : (([a] : List Nat) < [b]) ↔ a < b := by
  rw [List.cons_lt_cons_iff]
  simp
section
variable {P : Program} {w : World} {K : PySem.W.Frag} {mg : Str → Option Value} {base : Heap}
theorem ok_sl {f : Addr} {fd : FuncData} {k : Nat} (F : Fun K "is_small_letter" "is_small_letter" sSl f fd) : FnOk P w K mg base CX0 (k + 1) f fd ["sign"] spSl := by
  refine F.ok scSl (fun vs H Q E h => ?_) (fun cdv A outer s H vs Q E hr h => ?_)
  · obtain ⟨ch, rfl, _⟩ := h
    rfl
  · obtain ⟨ch, rfl, q⟩ := h
    refine ⟨_, pss_one (ps_ret (pe_chain op_le_str op_le_str pe_str (pv 0) pe_str)), ?_⟩
    have e1 : (!decide (([ch] : List Nat) < [97])) = decide (97 ≤ ch) := by
      rw [Bool.eq_iff_iff]
      simp only [Bool.not_eq_true', decide_eq_false_iff_not, decide_eq_true_eq, lt1]
      omega
    have e2 : (!decide (([122] : List Nat) < [ch])) = decide (ch ≤ 122) := by
      rw [Bool.eq_iff_iff]
      simp only [Bool.not_eq_true', decide_eq_false_iff_not, decide_eq_true_eq, lt1]
      omega
    refine ⟨_, rfl, _, _, rfl, rfl, decide (97 ≤ ch), congrArg V.bl e1, ite2 (fun e => ?_) (fun e => ?_)⟩
    · refine ⟨_, _, rfl, rfl, ?_⟩
      show Q (.bl (!decide (([122] : List Nat) < [ch]))) H
      rw [e2]
      unfold isL at q
      rw [e, Bool.true_and] at q
      exact q
    · unfold isL at q
      rw [Bool.eq_false_iff.mpr e, Bool.false_and] at q
      exact q
end
/-! ### a word -/
abbrev sIw : Stmt := topS 11
abbrev nIw : List Str := ["thing", "most", "sign"]
theorem scIw : FnScope nIw ["thing", "most"] (defScope sIw) := ⟨rfl, rfl, rfl, by decide +kernel, rfl, by decide +kernel, by decide +kernel⟩
/-- the generator that a def's last statement hands to all -/
def genScope : Expr → Scope
  | .Call _ [.GeneratorExp _ _ sc _] _ _ => sc
  | .BoolOp _ (.Call _ [.GeneratorExp _ _ sc _] _ _ :: _) _ => sc
  | _ => { kind := .function, names := [], isGenerator := false, isCoroutine := false }
def retOf : Stmt → Expr
  | .Return (some e) _ => e
  | _ => .Constant .none 0 ⟨0, 0, 0, 0⟩
abbrev gIw : Scope := genScope (retOf ((defBody sIw).getD 1 (.Pass ⟨0, 0, 0, 0⟩)))
theorem gnIw : Gx.GenN nIw (defScope sIw) gIw [("sign", 2)] := ⟨rfl, rfl, by decide +kernel, rfl, by decide +kernel, by decide +kernel, by decide +kernel, by decide +kernel⟩
def spIw (K : PySem.W.Frag) (P1 P2 : Addr) : Sp := fun vs H Q _ => ∃ (v : V) (m : Nat) (d : PyData), vs = [v, .int m] ∧ m ≤ 8 ∧ Dp K H v d ∧ wt d ≤ 100000 ∧ Tabs P1 P2 H ∧ ∀ H', Tx P1 P2 H H' → Q (.bl (isWordD m d)) H'
theorem all_range (l : List Nat) (p : Nat → Bool) (d : Nat) : ((List.range l.length).all fun j => p (l.getD j d)) = l.all p := by
  rw [Bool.eq_iff_iff, List.all_eq_true, List.all_eq_true]
  constructor
  · intro h x hx
    obtain ⟨i, hi, e⟩ := List.mem_iff_getElem.mp hx
    have h2 := h i (List.mem_range.mpr hi)
    rw [List.getD_eq_getElem?_getD, List.getElem?_eq_getElem hi, e] at h2
    exact h2
  · intro h j hj
    have hj2 := List.mem_range.mp hj
    rw [List.getD_eq_getElem?_getD, List.getElem?_eq_getElem hj2]
    exact h _ (List.getElem_mem hj2)
section
variable {P : Program} {w : World} {K : PySem.W.Frag} {mg : Str → Option Value} {base : Heap}
theorem ok_iw {f c fS P1 P2 : Addr} {fd fdS : FuncData} {k : Nat} (F : FunC K "is_word" "is_word" sIw f c fd) (TB : GxR.TabB base mg c P1) (FS : Fun K "is_small_letter" "is_small_letter" sSl fS fdS) (bS : Binds K fdS ["sign"] []) (gS : mg "is_small_letter" = some (.ref fS))
    (ml : mg "len" = none) (mi : mg "isinstance" = none) (ms : mg "str" = none) (ma : mg "all" = none) : FnOk P w K mg base CX0 (k + 3) f fd ["thing", "most"] (spIw K P1 P2) := by
  have GS : FnOk P w K mg base CX0 (k + 1) fS fdS ["sign"] spSl := ok_sl FS
  refine F.ok scIw (fun vs H Q E h => ?_) (fun A outer s H vs Q E hr h => ?_)
  · obtain ⟨v, m, d, rfl, _⟩ := h
    rfl
  · obtain ⟨v, m, d, rfl, hm, hd, hw, ht, q⟩ := h
    refine ⟨_, pss_cons (ps_if (PW.pt (pw_or (pt_not (pt_val (pe_callB call_isi (by rfl) mi PyProof.Rows.boot_isinstance (pa_cons (pv 0) (pa_cons (pe_bltn (v := .ty "str") (by rfl) ms PyProof.Rows.Boot.«str» rfl) pa_nil)))))
        (pw_or1 (pt_not (pt_chain op_le op_le pe_int (pe_callB call_len_str (by rfl) ml PySem.boot_len (pa_cons (pv 0) pa_nil)) (pv 1))))))
        (pss_one (ps_ret pe_bl)) pss_nil)
      (pss_one (ps_ret (Gx.pe_allG (own := [("sign", 2)]) (gt := gName 2) hr (by rfl) ma (by decide +kernel) TB rfl
        (scope := gIw) gnIw scIw.nd (pi_str (pv 0))
        (fun _ _ _ _ _ _ => pg_name (i := 2) scIw.nd rfl (.inl rfl))
        (fun _ _ _ _ _ _ hr' => pe_call GS hr' (by rfl) gS FS.kp bS .nil pass0 (pa_cons (pv 2) pa_nil)) (fun _ => rfl)))), ?_⟩
    refine ⟨v, rfl, v, _, _, _, _, rfl, .ty _, ty_dp hd, kit_ty (kit_s d), _, rfl, ?_⟩
    have no : isS d = false → isWordD m d = false := fun e => by
      cases d with
      | str z => cases e
      | _ => rfl
    refine ite2 (fun e => ?_) (fun e => ?_)
    · have e2 : isS d = false := by simpa using e
      refine iteT ?_
      have q2 := q H (.refl ht)
      rw [no e2] at q2
      exact q2
    · have e2 : isS d = true := by simpa using e
      cases d with
      | str z =>
        cases hd
        have hz : z.length ≤ 10000 := by
          rw [wt] at hw
          omega
        have hz2 : z.length ≤ sizeLine := Nat.le_trans hz (by decide)
        have all_ : ∀ H', Tx P1 P2 H H' → 1 ≤ z.length → z.length ≤ m → Q (.bl ((List.range z.cps.toList.length).all fun j => isL (z.cps.toList.getD j 0))) H' := fun H' x a1 a2 => by
          have q2 := q H' x
          rw [all_range]
          have e9 : isWordD m (.str z) = (decide (1 ≤ z.length) && (decide (z.length ≤ m) && z.cps.toList.all isL)) := rfl
          rw [e9, decide_eq_true a1, decide_eq_true a2, Bool.true_and, Bool.true_and] at q2
          exact q2
        have nay : ¬ (1 ≤ z.length ∧ z.length ≤ m) → Q (.bl false) H := fun n => by
          have q2 := q H (.refl ht)
          have e9 : isWordD m (.str z) = false := by
            show (decide (1 ≤ z.length) && (decide (z.length ≤ m) && z.cps.toList.all isL)) = false
            by_cases a1 : 1 ≤ z.length
            · rw [decide_eq_false (fun a2 => n ⟨a1, a2⟩), Bool.false_and, Bool.and_false]
            · rw [decide_eq_false a1, Bool.false_and]
          rw [e9] at q2
          exact q2
        have len_ : z.length = z.cps.toList.length := by simp [Str.length]
        refine ⟨.str z, rfl, z, rfl, hz2, _, _, rfl, rfl, _, rfl, ite2 (fun e3 => ?_) (fun e3 => ?_)⟩
        · have a1 := of_decide_eq_true e3
          refine ⟨.int m, rfl, _, _, rfl, rfl, _, rfl, ite2 (fun e4 => ?_) (fun e4 => ?_)⟩
          · have a2 : ¬ ((z.length : Int) ≤ m) := by simpa using e4
            exact nay fun h => a2 (by omega)
          · have a2 : (z.length : Int) ≤ m := by simpa using e4
            refine ⟨.str z, rfl, z, rfl, ht.1, z.cps.toList.length, fun j => isL (z.cps.toList.getD j 0), fun j σ' H' => (∃ y, σ' = [some (.str z), some (.int m), y]) ∧ Tx P1 P2 H H', fun H2 t => ⟨⟨none, rfl⟩, tx_tab1 ht t⟩, fun j σ' H' hj W => ?_, fun σ' H' W => ?_, fun j σ' H' W => ?_⟩
            · obtain ⟨⟨y, rfl⟩, x⟩ := W
              refine ⟨by show j < z.cps.size; simpa using hj, fun v H2 yy => ?_⟩
              obtain ⟨rfl, ch, hc, rfl⟩ := yy
              refine ⟨_, rfl, ch, rfl, ?_, ⟨_, rfl⟩, x⟩
              show V.bl (isL ch) = V.bl (isL (z.cps.toList.getD j 0))
              rw [List.getD_eq_getElem?_getD, Array.getElem?_toList, hc]
              rfl
            · show z.cps.size ≤ z.cps.toList.length
              simp
            · exact all_ H' W.2 (by omega) (by omega)
        · have a1 : ¬ ((1 : Int) ≤ z.length) := fun h => e3 (decide_eq_true h)
          exact ⟨false, rfl, iteT (nay fun h => a1 (by omega))⟩
      | _ => cases e2
end
end Cv
set_option Elab.async false
set_option linter.all false
set_option maxRecDepth 100000
set_option maxHeartbeats 4000000
namespace Cv
open PySem PySem.Spec PyProof.Rows L2
/-- a def at its place, and what it promises -/
structure At (P : Program) (w : World) (K : PySem.W.Frag) (mg : Str → Option Value) (base : Heap) (CX : CXT) (k : Nat) (nm : Str) (f : Addr) (fd : FuncData) (ps : List Str) (sp : Sp) : Prop where
  ok : FnOk P w K mg base CX k f fd ps sp
  kp : PySem.W.keepIn K (.ref f) = true
  b : Binds K fd ps []
  g : mg nm = some (.ref f)
def spW (m : Nat) (K : PySem.W.Frag) (P1 P2 : Addr) : Sp := fun vs H Q _ => ∃ (v : V) (d : PyData), vs = [v] ∧ Dp K H v d ∧ wt d ≤ 100000 ∧ Tabs P1 P2 H ∧ ∀ H', Tx P1 P2 H H' → Q (.bl (isWordD m d)) H'
abbrev sIn : Stmt := topS 19
abbrev sIc : Stmt := topS 20
theorem scIn : FnScope ["thing"] ["thing"] (defScope sIn) := ⟨rfl, rfl, rfl, by decide +kernel, rfl, by decide +kernel, by decide +kernel⟩
theorem scIc : FnScope ["thing"] ["thing"] (defScope sIc) := ⟨rfl, rfl, rfl, by decide +kernel, rfl, by decide +kernel, by decide +kernel⟩
theorem dp_strs {K : PySem.W.Frag} {H : Hp} {m : Nat} : ∀ {ds : List PyData} {xs : List V}, DpAll K H xs ds → ds.all (isWordD m) = true → xs = (ds.map strOf).map V.str
  | [], _, h, _ => by cases h; rfl
  | d :: r, _, h, a => by
    have a' : isWordD m d = true ∧ r.all (isWordD m) = true := by simpa using a
    obtain ⟨z, rfl, _⟩ := word_str a'.1
    cases h with
    | cons h1 h2 =>
      cases h1
      rw [List.map_cons, List.map_cons, ← dp_strs h2 a'.2]
      rfl
theorem all_rangeD (l : List PyData) (p : PyData → Bool) : ((List.range l.length).all fun j => p (l.getD j .none)) = l.all p := by
  rw [Bool.eq_iff_iff, List.all_eq_true, List.all_eq_true]
  constructor
  · intro h x hx
    obtain ⟨i, hi, e⟩ := List.mem_iff_getElem.mp hx
    have h2 := h i (List.mem_range.mpr hi)
    rw [List.getD_eq_getElem?_getD, List.getElem?_eq_getElem hi, e] at h2
    exact h2
  · intro h j hj
    have hj2 := List.mem_range.mp hj
    rw [List.getD_eq_getElem?_getD, List.getElem?_eq_getElem hj2]
    exact h _ (List.getElem_mem hj2)
abbrev sUc : Stmt := topS 21
abbrev nUc : List Str := ["things", "thing"]
theorem scUc : FnScope nUc ["things"] (defScope sUc) := ⟨rfl, rfl, rfl, by decide +kernel, rfl, by decide +kernel, by decide +kernel⟩
abbrev gUc : Scope := genScope (retOf ((defBody sUc).getD 0 (.Pass ⟨0, 0, 0, 0⟩)))
theorem gnUc : Gx.GenN nUc (defScope sUc) gUc [("thing", 1)] := ⟨rfl, rfl, by decide +kernel, rfl, by decide +kernel, by decide +kernel, by decide +kernel, by decide +kernel⟩
def spUc (K : PySem.W.Frag) (P1 P2 : Addr) : Sp := fun vs H Q _ => ∃ (a : Addr) (xs : List V) (ds : List PyData), vs = [.ref a] ∧ SqT K H a xs ∧ DpAll K H xs ds ∧ wts ds ≤ 100000 ∧ ds.length ≤ 1000 ∧ Tabs P1 P2 H ∧ ∀ H', Tx P1 P2 H H' → Q (.bl (unlikeD ds)) H'
abbrev sIs : Stmt := topS 22
theorem scIs : FnScope ["thing", "name", "codes"] ["thing"] (defScope sIs) := ⟨rfl, rfl, rfl, by decide +kernel, rfl, by decide +kernel, by decide +kernel⟩
def spIs (K : PySem.W.Frag) (P1 P2 : Addr) : Sp := fun vs H Q _ => ∃ (v : V) (d : PyData), vs = [v] ∧ Dp K H v d ∧ wt d ≤ 100000 ∧ Tabs P1 P2 H ∧ ∀ H', Tx P1 P2 H H' → Q (.bl (isSortD d)) H'
section
variable {P : Program} {w : World} {K : PySem.W.Frag} {mg : Str → Option Value} {base : Heap}
theorem ok_in {f fW P1 P2 : Addr} {fd fdW : FuncData} {k : Nat} {t : Tok} (F : Fun K "is_name" "is_name" sIn f fd) (W : At P w K mg base CX0 k "is_word" fW fdW ["thing", "most"] (spIw K P1 P2)) (g8 : mg "MOST_NAME" = some (.int 8 t)) :
    FnOk P w K mg base CX0 (k + 1) f fd ["thing"] (spW 8 K P1 P2) := by
  refine F.ok scIn (fun vs H Q E h => ?_) (fun cdv A outer s H vs Q E hr h => ?_)
  · obtain ⟨v, d, rfl, _⟩ := h
    rfl
  · obtain ⟨v, d, rfl, hd, hw, ht, q⟩ := h
    exact ⟨_, pss_one (ps_ret (pe_call W.ok hr (by rfl) W.g W.kp W.b .nil pass0 (pa_cons (pv 0) (pa_cons (pe_glob (v := .int 8) (by rfl) g8 ⟨_, rfl⟩) pa_nil)))), v, rfl, v, 8, d, rfl, by decide, hd, hw, ht, q⟩
theorem ok_ic {f fW P1 P2 : Addr} {fd fdW : FuncData} {k : Nat} {t : Tok} (F : Fun K "is_code" "is_code" sIc f fd) (W : At P w K mg base CX0 k "is_word" fW fdW ["thing", "most"] (spIw K P1 P2)) (g4 : mg "MOST_CODE" = some (.int 4 t)) :
    FnOk P w K mg base CX0 (k + 1) f fd ["thing"] (spW 4 K P1 P2) := by
  refine F.ok scIc (fun vs H Q E h => ?_) (fun cdv A outer s H vs Q E hr h => ?_)
  · obtain ⟨v, d, rfl, _⟩ := h
    rfl
  · obtain ⟨v, d, rfl, hd, hw, ht, q⟩ := h
    exact ⟨_, pss_one (ps_ret (pe_call W.ok hr (by rfl) W.g W.kp W.b .nil pass0 (pa_cons (pv 0) (pa_cons (pe_glob (v := .int 4) (by rfl) g4 ⟨_, rfl⟩) pa_nil)))), v, rfl, v, 4, d, rfl, by decide, hd, hw, ht, q⟩
theorem ok_uc {f c fC P1 P2 : Addr} {fd fdC : FuncData} {k : Nat} (F : FunC K "are_unlike_codes" "are_unlike_codes" sUc f c fd) (TB : GxR.TabB base mg c P2) (C : At P w K mg base CX0 k "is_code" fC fdC ["thing"] (spW 4 K P1 P2))
    (ml : mg "len" = none) (ms : mg "set" = none) (ma : mg "all" = none) : FnOk P w K mg base CX0 (k + 2) f fd ["things"] (spUc K P1 P2) := by
  refine F.ok scUc (fun vs H Q E h => ?_) (fun A outer s H vs Q E hr h => ?_)
  · obtain ⟨a, xs, ds, rfl, _⟩ := h
    rfl
  · obtain ⟨a, xs, ds, rfl, sq, hd, hw, few, ht, q⟩ := h
    refine ⟨_, pss_one (ps_ret (pe_and (Gx.pe_allG (own := [("thing", 1)]) (gt := gName 1) hr (by rfl) ma (by decide +kernel) TB rfl (scope := gUc) gnUc scUc.nd (pi_tup (pv 0))
        (fun _ _ _ _ _ _ => pg_name (i := 1) scUc.nd rfl (.inl rfl)) (fun _ _ _ _ _ _ hr' => pe_call C.ok hr' (by rfl) C.g C.kp C.b .nil pass0 (pa_cons (pv 1) pa_nil)) (fun _ => rfl))
      (pe_one (pe_cmpR op_eq (Sx.pe_lenSetT rfl (by rfl) ml (by rfl) ms (pv 0)) (pe_callB call_len_seq (by rfl) ml PySem.boot_len (pa_cons (pv 0) pa_nil)) (nomark _))))), ?_⟩
    have len_ := dpAll_len hd
    refine ⟨.ref a, rfl, a, rfl, ⟨xs, sq⟩, ht.2, ds.length, fun j => isWordD 4 (ds.getD j .none), fun j σ' H' => (∃ y, σ' = [some (.ref a), y]) ∧ Tx P1 P2 H H', fun H2 t => ⟨⟨none, rfl⟩, tx_tab2 ht t⟩, fun j σ' H' hj W => ?_, fun σ' H' W => ?_, fun j σ' H' W => ?_⟩
    · obtain ⟨⟨y, rfl⟩, x⟩ := W
      have sq' := x.2.sqT sq
      have hj' : j < xs.length := by omega
      refine ⟨⟨xs, xs[j], sq', List.getElem?_eq_getElem hj'⟩, fun v H2 yy => ?_⟩
      obtain ⟨rfl, yy⟩ := yy
      obtain ⟨d, e1, e2⟩ := dpAll_get (x.2.dpAll ds xs hd) (yy xs sq')
      have hw' := wt_mem (List.mem_of_getElem? e1)
      refine ⟨v, rfl, v, d, rfl, e2, by omega, x.1, fun H3 x3 => ⟨?_, ⟨_, rfl⟩, x.trans x3⟩⟩
      show V.bl (isWordD 4 d) = V.bl (isWordD 4 (ds.getD j .none))
      rw [List.getD_eq_getElem?_getD, e1]
      rfl
    · exact ⟨xs, W.2.2.sqT sq, by omega⟩
    · obtain ⟨_, x⟩ := W
      refine ⟨_, rfl, ite2 (fun e => ?_) (fun e => ?_)⟩
      · rw [all_rangeD] at e
        have ex := dp_strs hd e
        have sq' := x.2.sqT sq
        refine ⟨.ref a, rfl, a, ds.map strOf, rfl, by rw [← ex]; exact sq', by rw [List.length_map]; exact few, .ref a, rfl, a, xs, rfl, .inr sq', rfl, ?_⟩
        have q2 := q H' x
        unfold unlikeD at q2
        rw [e, Bool.true_and] at q2
        have e3 : decide (V.int ((Sx.nd (ds.map strOf) : Nat) : Int) = V.int ((xs.length : Nat) : Int)) = decide ((ds.map strOf).Nodup) := by
          have z := Sx.nd_eq (ds.map strOf)
          rw [List.length_map] at z
          rw [Bool.eq_iff_iff, decide_eq_true_iff, decide_eq_true_iff, ← z]
          constructor
          · intro h
            have h2 := V.int.inj h
            omega
          · intro h
            rw [h, len_]
        show Q (.bl (decide (V.int ((Sx.nd (ds.map strOf) : Nat) : Int) = V.int ((xs.length : Nat) : Int)))) H'
        rw [e3]
        exact q2
      · have e' : ds.all (isWordD 4) = false := by
          rw [all_rangeD] at e
          exact Bool.eq_false_iff.mpr e
        have q2 := q H' x
        unfold unlikeD at q2
        rw [e', Bool.false_and] at q2
        exact q2
end
end Cv
set_option Elab.async false
set_option linter.all false
set_option maxRecDepth 100000
set_option maxHeartbeats 400000
namespace Cv
open PySem PySem.Spec PyProof.Rows L2
theorem two_of {K : PySem.W.Frag} {H : Hp} {xs : List V} {ds : List PyData} (h : DpAll K H xs ds) (l : xs.length = 2) : ∃ x y dx dy, xs = [x, y] ∧ ds = [dx, dy] ∧ Dp K H x dx ∧ Dp K H y dy := by
  cases h with
  | nil => cases l
  | cons h1 h =>
    cases h with
    | nil => cases l
    | cons h2 h =>
      cases h with
      | nil => exact ⟨_, _, _, _, rfl, rfl, h1, h2⟩
      | cons h3 h =>
        simp only [List.length_cons] at l
        omega
theorem sort_len {ds : List PyData} (h : ds.length ≠ 2) : isSortD (.tuple ds) = false := by
  unfold isSortD
  split
  · rename_i n cs e
    cases e
    exact absurd rfl h
  · rfl
theorem sort_name {dx dy : PyData} (h : isWordD 8 dx = false) : isSortD (.tuple [dx, dy]) = false := by
  unfold isSortD
  split
  · rename_i n cs e
    cases e
    rw [h, Bool.false_and]
  · rfl
theorem sort_tup {dx dy : PyData} (h : isT dy = false) : isSortD (.tuple [dx, dy]) = false := by
  unfold isSortD
  split
  · rename_i n cs e
    cases e
    cases h
  · rfl
theorem sort_yes {dx : PyData} {cs : List PyData} (h : isWordD 8 dx = true) : isSortD (.tuple [dx, .tuple cs]) = (decide (2 ≤ cs.length) && (decide (cs.length ≤ 6) && unlikeD cs)) := by
  show (isWordD 8 dx && (decide (2 ≤ cs.length) && (decide (cs.length ≤ 6) && unlikeD cs))) = _
  rw [h, Bool.true_and]
theorem sort_kind {d : PyData} (h : isT d = false) : isSortD d = false := by
  cases d with
  | tuple ds => cases h
  | _ => rfl
theorem tup_of {d : PyData} (h : isT d = true) : ∃ ds, d = .tuple ds := by
  cases d with
  | tuple ds => exact ⟨ds, rfl⟩
  | _ => cases h
theorem dp_tup {K : PySem.W.Frag} {H : Hp} {v : V} {ds : List PyData} (h : Dp K H v (.tuple ds)) : ∃ a xs, v = .ref a ∧ SqT K H a xs ∧ DpAll K H xs ds := by
  cases h with
  | tup a b => exact ⟨_, _, rfl, a, b⟩
section
variable {P : Program} {w : World} {K : PySem.W.Frag} {mg : Str → Option Value} {base : Heap}
theorem ndT {p : Prop} [Decidable p] (h : (!decide p) = true) : ¬ p := fun hp => by
  rw [decide_eq_true hp] at h
  cases h
theorem ndF {p : Prop} [Decidable p] (h : ¬ (!decide p) = true) : p := by
  by_cases hp : p
  · exact hp
  · rw [decide_eq_false hp] at h
    exact absurd rfl h
/-! ### a tuple of so many -/
abbrev sTf : Stmt := topS 12
theorem scTf : FnScope ["thing", "many"] ["thing", "many"] (defScope sTf) := ⟨rfl, rfl, rfl, by decide +kernel, rfl, by decide +kernel, by decide +kernel⟩
def isTof (m : Int) : PyData → Bool
  | .tuple ds => decide ((ds.length : Int) = m)
  | _ => false
def spTf (K : PySem.W.Frag) : Sp := fun vs H Q _ => ∃ (v : V) (m : Int) (d : PyData), vs = [v, .int m] ∧ Dp K H v d ∧ Q (.bl (isTof m d)) H
theorem ok_tf {f : Addr} {fd : FuncData} {k : Nat} (F : Fun K "is_tuple_of" "is_tuple_of" sTf f fd) (ml : mg "len" = none) (mi : mg "isinstance" = none) (mt : mg "tuple" = none) : FnOk P w K mg base CX0 (k + 1) f fd ["thing", "many"] (spTf K) := by
  refine F.ok scTf (fun vs H Q E h => ?_) (fun cdv A outer s H vs Q E hr h => ?_)
  · obtain ⟨v, m, d, rfl, _⟩ := h
    rfl
  · obtain ⟨v, m, d, rfl, hd, q⟩ := h
    refine ⟨_, pss_one (ps_ret (pe_and (pe_callB call_isi (by rfl) mi PyProof.Rows.boot_isinstance (pa_cons (pv 0) (pa_cons (pe_bltn (v := .ty "tuple") (by rfl) mt PyProof.Rows.Boot.«tuple» rfl) pa_nil)))
      (pe_one (pe_cmpR op_eq (pe_callB call_len_seq (by rfl) ml PySem.boot_len (pa_cons (pv 0) pa_nil)) (pv 1) (nomark _))))), ?_⟩
    refine ⟨v, rfl, v, _, _, _, _, rfl, .ty _, ty_dp hd, kit_ty (kit_t d), _, rfl, ite2 (fun e => ?_) (fun e => ?_)⟩
    · obtain ⟨ds, rfl⟩ := tup_of (d := d) (by simpa using e)
      obtain ⟨a, xs, rfl, sq, hds⟩ := dp_tup hd
      have len_ := dpAll_len hds
      refine ⟨.ref a, rfl, a, xs, rfl, .inr sq, _, rfl, rfl, ?_⟩
      have e3 : decide (V.int ((xs.length : Nat) : Int) = V.int m) = decide ((ds.length : Int) = m) := by
        rw [Bool.eq_iff_iff, decide_eq_true_iff, decide_eq_true_iff, len_]
        exact ⟨fun h => V.int.inj h, fun h => by rw [h]⟩
      show Q (.bl (decide (V.int ((xs.length : Nat) : Int) = V.int m))) H
      rw [e3]
      exact q
    · have e2 : isT d = false := by simpa using e
      have e4 : isTof m d = false := by
        cases d with
        | tuple ds => cases e2
        | _ => rfl
      rw [e4] at q
      exact q
theorem ok_is {f fT fN fU P1 P2 : Addr} {fd fdT fdN fdU : FuncData} {k : Nat} {t2 t6 : Tok} (F : Fun K "is_sort" "is_sort" sIs f fd) (Tf : At P w K mg base CX0 k "is_tuple_of" fT fdT ["thing", "many"] (spTf K)) (Nm : At P w K mg base CX0 k "is_name" fN fdN ["thing"] (spW 8 K P1 P2)) (U : At P w K mg base CX0 k "are_unlike_codes" fU fdU ["things"] (spUc K P1 P2))
    (ml : mg "len" = none) (mi : mg "isinstance" = none) (mt : mg "tuple" = none) (g2 : mg "LEAST_CODES" = some (.int 2 t2)) (g6 : mg "MOST_CODES" = some (.int 6 t6)) : FnOk P w K mg base CX0 (k + 1) f fd ["thing"] (spIs K P1 P2) := by
  refine F.ok scIs (fun vs H Q E h => ?_) (fun cdv A outer s H vs Q E hr h => ?_)
  · obtain ⟨v, d, rfl, _⟩ := h
    rfl
  · obtain ⟨v, d, rfl, hd, hw, ht, q⟩ := h
    refine ⟨_, pss_cons (ps_if (pt_not (pt_val (pe_call Tf.ok hr (by rfl) Tf.g Tf.kp Tf.b .nil pass0 (pa_cons (pv 0) (pa_cons pe_int pa_nil))))) (pss_one (ps_ret pe_bl)) pss_nil)
      (pss_cons (ps_asg (pv 0) (pg_tup rfl (pgs_cons (pg_name (i := 1) scIs.nd rfl (.inl rfl)) (pgs_cons (pg_name (i := 2) scIs.nd rfl (.inl rfl)) pgs_nil))))
      (pss_cons (ps_if (PW.pt (pw_or (pt_not (pt_val (pe_call Nm.ok hr (by rfl) Nm.g Nm.kp Nm.b .nil pass0 (pa_cons (pv 1) pa_nil))))
        (pw_or1 (pt_not (pt_val (pe_callB call_isi (by rfl) mi PyProof.Rows.boot_isinstance (pa_cons (pv 2) (pa_cons (pe_bltn (v := .ty "tuple") (by rfl) mt PyProof.Rows.Boot.«tuple» rfl) pa_nil)))))))) (pss_one (ps_ret pe_bl)) pss_nil)
      (pss_one (ps_ret (pe_and (pe_chain op_le op_le (pe_glob (v := .int 2) (by rfl) g2 ⟨_, rfl⟩) (pe_callB call_len_seq (by rfl) ml PySem.boot_len (pa_cons (pv 2) pa_nil)) (pe_glob (v := .int 6) (by rfl) g6 ⟨_, rfl⟩))
        (pe_one (pe_call U.ok hr (by rfl) U.g U.kp U.b .nil pass0 (pa_cons (pv 2) pa_nil)))))))), ?_⟩
    have nay : ∀ H', Tx P1 P2 H H' → isSortD d = false → Q (.bl false) H' := fun H' x e => by
      have q2 := q H' x
      rw [e] at q2
      exact q2
    refine ⟨v, rfl, v, 2, d, rfl, hd, _, rfl, ite2 (fun e => ?_) (fun e => ?_)⟩
    · refine nay H (.refl ht) ?_
      have e2 : isTof 2 d = false := by simpa using e
      cases d with
      | tuple ds =>
        refine sort_len fun z => ?_
        have e3 : decide ((ds.length : Int) = 2) = false := e2
        exact of_decide_eq_false e3 (by omega)
      | _ => rfl
    · have e2 : isTof 2 d = true := by simpa using e
      have e0 : isT d = true := by
        cases d with
        | tuple ds => rfl
        | _ => cases e2
      obtain ⟨ds, rfl⟩ := tup_of e0
      obtain ⟨a, xs, rfl, sq, hds⟩ := dp_tup hd
      have len_ := dpAll_len hds
      have hw' : wts ds ≤ 100000 := by
        rw [wt] at hw
        omega
      · have a3 : xs.length = 2 := by
          have e4 := of_decide_eq_true (show decide ((ds.length : Int) = 2) = true from e2)
          omega
        obtain ⟨x, y, dx, dy, rfl, rfl, h1, h2⟩ := two_of hds a3
        have w1 := wt_mem (show dx ∈ [dx, dy] from List.mem_cons_self)
        have w2 := wt_mem (show dy ∈ [dx, dy] from List.mem_cons_of_mem _ List.mem_cons_self)
        refine ⟨.ref a, rfl, a, _, rfl, sq, rfl, _, _, rfl, _, _, rfl, rfl, ?_⟩
        refine ⟨x, rfl, x, dx, rfl, h1, by omega, ht, fun H1 x1 => ⟨_, rfl, ?_⟩⟩
        refine ite2 (fun e5 => ?_) (fun e5 => ?_)
        · exact iteT (nay H1 x1 (sort_name (by simpa using e5)))
        · have e6 : isWordD 8 dx = true := by simpa using e5
          have h2' := x1.2.dp dy y h2
          refine ⟨y, rfl, y, _, _, _, _, rfl, .ty _, ty_dp h2', kit_ty (kit_t dy), _, rfl, ite2 (fun e7 => ?_) (fun e7 => ?_)⟩
          · exact nay H1 x1 (sort_tup (by simpa using e7))
          · obtain ⟨cs, rfl⟩ := tup_of (d := dy) (by simpa using e7)
            obtain ⟨b, ys, rfl, sq2, hcs⟩ := dp_tup h2'
            have len2 := dpAll_len hcs
            have hw2 : wts cs ≤ 100000 := by
              rw [wt] at w2
              omega
            have sd := sort_yes (cs := cs) e6
            refine ⟨.ref b, rfl, b, ys, rfl, .inr sq2, _, _, rfl, rfl, _, rfl, ite2 (fun e9 => ?_) (fun e9 => ?_)⟩
            · have l1 := of_decide_eq_true e9
              refine ⟨_, _, rfl, rfl, _, rfl, ite2 (fun e10 => ?_) (fun e10 => ?_)⟩
              · have l2 := of_decide_eq_true e10
                refine ⟨.ref b, rfl, b, ys, cs, rfl, sq2, hcs, hw2, by omega, x1.1, fun H2 x2 => ?_⟩
                have q2 := q H2 (x1.trans x2)
                rw [sd, decide_eq_true (show 2 ≤ cs.length by omega), decide_eq_true (show cs.length ≤ 6 by omega), Bool.true_and, Bool.true_and] at q2
                exact q2
              · refine nay H1 x1 ?_
                rw [sd, decide_eq_false (show ¬ cs.length ≤ 6 from fun z => e10 (decide_eq_true (by omega))), Bool.false_and, Bool.and_false]
            · refine ⟨false, rfl, iteF (nay H1 x1 ?_)⟩
              rw [sd, decide_eq_false (show ¬ 2 ≤ cs.length from fun z => e9 (decide_eq_true (by omega))), Bool.false_and]
end
end Cv
set_option Elab.async false
set_option linter.all false
set_option maxRecDepth 100000
set_option maxHeartbeats 1000000
namespace Cv
open PySem PySem.Spec PyProof.Rows L2
theorem cut_to (xs : List V) (k : Nat) : cutV xs none (some (k : Int)) = xs.take k := by
  unfold cutV
  rw [show HT.sIx xs.length 0 none = 0 from HT.sIx_none _ _, show HT.sIx xs.length xs.length (some (k : Int)) = min k xs.length from HT.sIx_nat xs.length xs.length k, List.drop_zero, Nat.sub_zero]
  by_cases h : k ≤ xs.length
  · rw [Nat.min_eq_left h]
  · rw [Nat.min_eq_right (by omega), List.take_of_length_le (Nat.le_refl _), List.take_of_length_le (by omega)]
theorem name_of {K : PySem.W.Frag} {H : Hp} {v : V} {d : PyData} (h : Dp K H v d) (s : isSortD d = true) : ∃ a y, v = .ref a ∧ SqT K H a [.str (nameOf d), y] := by
  obtain ⟨z, cs, rfl, _⟩ := sort_of s
  obtain ⟨a, xs, rfl, sq, hds⟩ := dp_tup h
  obtain ⟨x, y, dx, dy, rfl, e, h1, h2⟩ := two_of hds (dpAll_len hds)
  injection e with e1 e2
  subst e1
  cases h1
  exact ⟨a, y, rfl, sq⟩
/-! ### what is wrong with a plan -/
abbrev sPw : Stmt := topS 23
abbrev nPw : List Str := ["thing", "k", "sort", "names", "name", "codes"]
theorem scPw : FnScope nPw ["thing"] (defScope sPw) := ⟨rfl, rfl, rfl, by decide +kernel, rfl, by decide +kernel, by decide +kernel⟩
def spPw (K : PySem.W.Frag) (P1 P2 : Addr) : Sp := fun vs H Q _ => ∃ (v : V) (d : PyData), vs = [v] ∧ Dp K H v d ∧ wt d ≤ 100000 ∧ Tabs P1 P2 H ∧ ∀ H' r, Tx P1 P2 H H' → Dp K H' r (wrongD d) → Q r H'
section
variable {P : Program} {w : World} {K : PySem.W.Frag} {mg : Str → Option Value} {base : Heap}
theorem ok_pw {f fS P1 P2 : Addr} {fd fdS : FuncData} {k : Nat} {t4 : Tok} (F : Fun K "plan_wrong" "plan_wrong" sPw f fd) (S : At P w K mg base CX0 k "is_sort" fS fdS ["thing"] (spIs K P1 P2))
    (ml : mg "len" = none) (mi : mg "isinstance" = none) (mt : mg "tuple" = none) (me : mg "enumerate" = none) (g4 : mg "MOST_SORTS" = some (.int 4 t4)) : FnOk P w K mg base CX0 (k + 1) f fd ["thing"] (spPw K P1 P2) := by
  refine F.ok scPw (fun vs H Q E h => ?_) (fun cdv A outer s H vs Q E hr h => ?_)
  · obtain ⟨v, d, rfl, _⟩ := h
    rfl
  · obtain ⟨v, d, rfl, hd, hw, ht, q⟩ := h
    refine ⟨_, pss_cons (ps_if (PW.pt (pw_or (pt_not (pt_val (pe_callB call_isi (by rfl) mi PyProof.Rows.boot_isinstance (pa_cons (pv 0) (pa_cons (pe_bltn (v := .ty "tuple") (by rfl) mt PyProof.Rows.Boot.«tuple» rfl) pa_nil)))))
        (pw_or1 (pt_not (pt_chain op_le op_le pe_int (pe_callB call_len_seq (by rfl) ml PySem.boot_len (pa_cons (pv 0) pa_nil)) (pe_glob (v := .int 4) (by rfl) g4 ⟨_, rfl⟩)))))) (pss_one (ps_ret (pe_tup (pa_cons pe_str pa_nil)))) pss_nil)
      (pss_cons (ps_for PassesOwn.never rfl (Ex.pi_enumT (by rfl) me (pa_cons (pv 0) pa_nil)) (pg_tup rfl (pgs_cons (pg_name (i := 1) scPw.nd rfl (.inl rfl)) (pgs_cons (pg_name (i := 2) scPw.nd rfl (.inl rfl)) pgs_nil)))
        (pss_one (ps_if (pt_not (pt_val (pe_call S.ok hr (by rfl) S.g S.kp S.b .nil pass0 (pa_cons (pv 2) pa_nil)))) (pss_one (ps_ret (pe_tup (pa_cons pe_str (pa_cons (pv 1) pa_nil))))) pss_nil)))
      (pss_cons (ps_setLc (i := 3) (own := [("name", 4), ("codes", 5)]) (g := gTup K 2 (gCons (gName 4) (gCons (gName 5) gNil))) (tt := tYes) rfl scPw.nd rfl rfl (sw_true rfl rfl rfl (by decide +kernel)) (pi_tup (pv 0))
          (blkOk_by (own := [("name", 4), ("codes", 5)]) (N := nPw) (sc := defScope sPw) (by decide +kernel)) (fun _ _ _ _ _ => pg_tup rfl (pgs_cons (pg_name (i := 4) scPw.nd rfl (Or.inl rfl)) (pgs_cons (pg_name (i := 5) scPw.nd rfl (Or.inl rfl)) pgs_nil)))
          (fun _ _ _ _ _ => pts_nil) (fun _ _ _ _ _ => pv 4))
      (pss_cons (ps_for PassesOwn.never rfl (pi_enum (by rfl) me (pa_cons (pv 3) pa_nil)) (pg_tup rfl (pgs_cons (pg_name (i := 1) scPw.nd rfl (.inl rfl)) (pgs_cons (pg_name (i := 4) scPw.nd rfl (.inl rfl)) pgs_nil)))
        (pss_one (ps_if (pt_cmpR op_in_seq (pv 4) (pe_slice sl_list (pv 3) po_none (po_some (pv 1))) rfl) (pss_one (ps_ret (pe_tup (pa_cons pe_str (pa_cons (pv 1) pa_nil))))) pss_nil)))
      (pss_one (ps_ret pe_non))))), ?_⟩
    refine ⟨v, rfl, v, _, _, _, _, rfl, .ty _, ty_dp hd, kit_ty (kit_t d), _, rfl, ?_⟩
    -- ("plan",)
    have nay : wrongD d = .tuple [.str "plan"] → 1 ≤ sizeLine ∧ ∀ t, H t = none → Q (.ref t) (upd H t (.tup [.str "plan"])) := fun e => by
      refine ⟨by decide, fun t nt => q _ _ (.of ht (same_upd nt)) ?_⟩
      rw [e]
      exact .tup (SqT.of upd_same) (.cons (.str _) .nil)
    refine ite2 (fun e => ?_) (fun e => ?_)
    · refine iteT (nay ?_)
      have e2 : isT d = false := by simpa using e
      cases d with
      | tuple ds => cases e2
      | _ => rfl
    · obtain ⟨ds, rfl⟩ := tup_of (d := d) (by simpa using e)
      obtain ⟨a, xs, rfl, sq, hds⟩ := dp_tup hd
      have len_ := dpAll_len hds
      have wd : wrongD (.tuple ds) = wrongDs ds := rfl
      have off : ¬ (1 ≤ ds.length ∧ ds.length ≤ 4) → wrongD (.tuple ds) = .tuple [.str "plan"] := fun n => by
        rw [wd]
        unfold wrongDs
        rw [if_neg n]
      refine ⟨.ref a, rfl, a, xs, rfl, .inr sq, _, _, rfl, rfl, _, rfl, ite2 (fun e3 => ?_) (fun e3 => ⟨false, rfl, iteT (nay (off fun h => e3 (decide_eq_true (by omega))))⟩)⟩
      have l1 := of_decide_eq_true e3
      refine ⟨_, _, rfl, rfl, _, rfl, ite2 (fun e4 => nay (off fun h => ndT e4 (by omega))) (fun e4 => ?_)⟩
      have l2 := ndF e4
      have fit : 1 ≤ ds.length ∧ ds.length ≤ 4 := by omega
      have hw' : wts ds ≤ 100000 := by
        rw [wt] at hw
        omega
      refine ⟨.ref a, rfl, a, xs, rfl, sq, ?_⟩
      refine Ex.for_enumT (K := K) (a := a) (xs := xs) (fun i σ H' => ∃ y1 y2, σ = [some (.ref a), y1, y2, none, none, none] ∧ Tx P1 P2 H H' ∧ ∀ j, j < i → isSortD (ds.getD j .none) = true) ⟨none, none, rfl, .refl ht, fun j hj => absurd hj (Nat.not_lt_zero j)⟩
        (fun i σ H' _ h => ?_) (fun i x σ H' T hx h hT => ?_) (fun σ H' h => ?_)
      · obtain ⟨_, _, _, x1, _⟩ := h
        exact x1.2.sqT sq
      · obtain ⟨y1, y2, rfl, x1, all⟩ := h
        have x2 : Tx P1 P2 H (upd H' T (.tup [.int (i : Nat), x])) := x1.trans (.of x1.1 (same_upd hT))
        obtain ⟨dx, ex, hdx⟩ := dpAll_get (x2.2.dpAll ds xs hds) hx
        have gx : ds.getD i .none = dx := by
          rw [List.getD_eq_getElem?_getD, ex]
          rfl
        have hi : i < ds.length := (List.getElem?_eq_some_iff.mp ex).1
        have w1 := wt_mem (List.mem_of_getElem? ex)
        refine ⟨T, _, rfl, SqT.of upd_same, rfl, _, _, rfl, _, _, rfl, rfl, ?_⟩
        refine ⟨x, rfl, x, dx, rfl, hdx, by omega, x2.1, fun H3 x3 => ⟨_, rfl, ite2 (fun e5 => ?_) (fun e5 => ?_)⟩⟩
        · have e6 : isSortD dx = false := by simpa using e5
          refine ⟨_, rfl, by show 2 ≤ sizeLine; decide, fun t nt => q _ _ (x2.trans (x3.trans (.of x3.1 (same_upd nt)))) ?_⟩
          have e7 : wrongD (.tuple ds) = .tuple [.str "sort", .int i] := by
            rw [wd]
            unfold wrongDs
            rw [if_pos fit, firstK_some (k := i) hi (by unfold notSort; rw [gx, e6]; rfl) (fun j hj => by unfold notSort; rw [all j hj]; rfl)]
          rw [e7]
          exact .tup (SqT.of upd_same) (.cons (.str _) (.cons (.int _) .nil))
        · have e6 : isSortD dx = true := by simpa using e5
          refine ⟨_, _, rfl, x2.trans x3, fun j hj => ?_⟩
          by_cases z : j = i
          · rw [z, gx]
            exact e6
          · exact all j (by omega)
      · obtain ⟨y1, y2, rfl, x1, all⟩ := h
        rw [len_] at all
        have none1 : firstK ds.length (notSort ds) = none := firstK_none fun j hj => by
          unfold notSort
          rw [all j hj]
          rfl
        have wd2 : wrongD (.tuple ds) = (match firstK ds.length (twiceAt (ds.map nameOf)) with
            | some k => .tuple [.str "twice", .int k]
            | none => .none) := by
          rw [wd]
          unfold wrongDs
          rw [if_pos fit, none1] <;> rfl
        refine ⟨.ref a, rfl, a, rfl, ⟨xs, x1.2.sqT sq⟩, fun D nD => ?_⟩
        have nDa : ∀ {o}, H' a = some o → a ≠ D := fun h => ne_of_none h nD
        refine lc_tup (K := K) (a := a) (xs := xs) (fun j H3 => Same H' H3 ∧ H3 D = some (.lst (((ds.map nameOf).take j).map V.str))) ⟨same_upd nD, upd_same⟩ (fun j H3 _ h => ?_) (fun j x H3 hx h => ?_) (fun H3 h => ?_)
        · exact (x1.2.trans (.of h.1)).sqT sq
        · obtain ⟨h1, h2⟩ := h
          obtain ⟨dx, ex, hdx⟩ := dpAll_get ((x1.2.trans (.of h1)).dpAll ds xs hds) hx
          have hj : j < ds.length := (List.getElem?_eq_some_iff.mp ex).1
          have sx : isSortD dx = true := by
            have z := all j hj
            rw [List.getD_eq_getElem?_getD, ex] at z
            exact z
          obtain ⟨b, y, rfl, sq3⟩ := name_of hdx sx
          refine ⟨b, _, rfl, sq3, rfl, _, _, rfl, _, _, rfl, rfl, rfl, .str (nameOf dx), rfl, _, h2, ?_, ?_, ?_⟩
          · rw [List.length_map, List.length_take]
            exact small1000 (by omega)
          · intro b' o' e
            rw [upd_ne (ne_of_none e nD)]
            exact h1 _ _ e
          · rw [upd_same, List.take_add_one, List.map_append, List.getElem?_map, ex]
            rfl
        · obtain ⟨h1, h2⟩ := h
          rw [List.take_of_length_le (by rw [List.length_map]; omega)] at h2
          have x3 : Tx P1 P2 H H3 := x1.trans (.of x1.1 h1)
          refine ⟨.ref D, rfl, D, _, rfl, SqL.of h2, ?_⟩
          refine for_it (walk_enum (K := K) (a := D) (xs := (ds.map nameOf).map V.str)) (fun i σ H4 => ∃ z1 z2 z4, σ = [some (.ref a), z1, z2, some (.ref D), z4, none] ∧ Tx P1 P2 H H4 ∧ H4 D = some (.lst ((ds.map nameOf).map V.str)) ∧ ∀ j, j < i → twiceAt (ds.map nameOf) j = false)
            ⟨y1, y2, none, rfl, x3, h2, fun j hj => absurd hj (Nat.not_lt_zero j)⟩ (fun i σ H4 _ h => ?_) (fun i x σ H4 H5 hi h hy => ?_) (fun σ H4 h => ?_)
          · obtain ⟨_, _, _, _, _, hD, _⟩ := h
            exact SqL.of hD
          · obtain ⟨z1, z2, z4, rfl, x4, hD, all2⟩ := h
            obtain ⟨T, u1, u2, rfl, nT, rfl, e1, e2⟩ := hy
            obtain rfl : u1 = .int (i : Nat) := (Option.some.inj e1).symm
            rw [List.length_map, List.length_map] at hi
            have gn : (ds.map nameOf)[i]? = some ((ds.map nameOf).getD i "") := by
              rw [List.getD_eq_getElem?_getD, List.getElem?_eq_getElem (by rw [List.length_map]; exact hi)]
              rfl
            obtain rfl : u2 = .str ((ds.map nameOf).getD i "") := by
              have e2' : ((ds.map nameOf).map V.str)[i]? = some u2 := e2
              rw [List.getElem?_map, gn] at e2'
              exact (Option.some.inj e2').symm
            have sT := same_upd nT (o := .tup [.int (i : Nat), .str ((ds.map nameOf).getD i "")])
            have x5 := x4.trans (.of x4.1 sT)
            refine ⟨T, _, rfl, SqT.of upd_same, rfl, _, _, rfl, _, _, rfl, rfl, ?_⟩
            refine ⟨_, rfl, .ref D, rfl, _, rfl, _, rfl, D, _, rfl, SqL.of (sT _ _ hD), fun p np => ?_⟩
            have sP := same_upd np (o := .lst (cutV ((ds.map nameOf).map V.str) none (some ((i : Nat) : Int))))
            have x6 := x5.trans (.of x5.1 sP)
            have ecut : cutV ((ds.map nameOf).map V.str) none (some ((i : Nat) : Int)) = ((ds.map nameOf).take i).map V.str := by rw [cut_to, List.map_take]
            have atp : (upd (upd H4 T (.tup [.int (i : Nat), .str ((ds.map nameOf).getD i "")])) p (.lst (cutV ((ds.map nameOf).map V.str) none (some ((i : Nat) : Int))))) p = some (.lst (((ds.map nameOf).take i).map V.str)) := by rw [upd_same, ecut]
            refine ⟨p, _, rfl, .inl (SqL.of atp), rfl, flat_strs _, _, rfl, ite2 (fun e5 => ?_) (fun e5 => ?_)⟩
            · have e6 : twiceAt (ds.map nameOf) i = true := (inV_str _ _).symm.trans e5
              refine ⟨_, rfl, by show 2 ≤ sizeLine; decide, fun t nt => q _ _ (x6.trans (.of x6.1 (same_upd nt))) ?_⟩
              rw [wd2, firstK_some (k := i) hi e6 all2]
              exact .tup (SqT.of upd_same) (.cons (.str _) (.cons (.int _) .nil))
            · have e6 : twiceAt (ds.map nameOf) i = false := by
                have z := inV_str ((ds.map nameOf).getD i "") ((ds.map nameOf).take i)
                rw [z] at e5
                exact Bool.eq_false_iff.mpr e5
              refine ⟨_, _, _, rfl, x6, sP _ _ (sT _ _ hD), fun j hj => ?_⟩
              by_cases z : j = i
              · rw [z]
                exact e6
              · exact all2 j (by omega)
          · obtain ⟨z1, z2, z4, rfl, x4, hD, all2⟩ := h
            rw [List.length_map, List.length_map] at all2
            refine q _ _ x4 ?_
            rw [wd2, firstK_none all2]
            exact .non
end
end Cv
set_option Elab.async false
set_option linter.all false
set_option maxRecDepth 100000
set_option maxHeartbeats 4000000
namespace Cv
open PySem PySem.Spec PyProof.Rows L2
/-! ### an exception that is kept behind its except suite -/
/-- at a: an exception of the class C, its dict at d -/
def xob (a C : Addr) (d : Option Addr) : HO := .ext fun h => ∃ oe vs, h.get? a = some oe ∧ Zc (.ref C) d oe ∧ oe.data = .fields vs
theorem xob_ok {P : Program} {w : World} {H : Hp} {h : Heap} {a C : Addr} {d : Option Addr} {oe : Obj} {vs : Array Value} (e : h.get? a = some oe) (hz : Zc (.ref C) d oe) (hd : oe.data = .fields vs) : ObjOk P w H h a (xob a C d) :=
  ⟨⟨oe, vs, e, hz, hd⟩, ⟨oe, e⟩, fun h1 h2 ⟨o1, v1, g1, g2, g3⟩ k => ⟨o1, v1, k _ g1, g2, g3⟩⟩
theorem xob_at {P : Program} {w : World} {H : Hp} {h : Heap} {a C : Addr} {d : Option Addr} (hok : HOk P w H h) (e : H a = some (xob a C d)) : ∃ oe vs, h.get? a = some oe ∧ Zc (.ref C) d oe ∧ oe.data = .fields vs := by
  have x : ObjOk P w H h a (.ext fun h => ∃ oe vs, h.get? a = some oe ∧ Zc (.ref C) d oe ∧ oe.data = .fields vs) := hok a _ e
  exact x.1
section
variable {X : Cx} {pins : List (Addr × Obj)} {σ : L2.St} {H : Hp} {s : Shared}
theorem track {a C : Addr} {d : Option Addr} {oe : Obj} {vs : Array Value} (I : Inv X pins σ H s) (ha : s.heap.get? a = some oe) (hz : Zc (.ref C) d oe) (hd : oe.data = .fields vs) (na : H a = none) (nL : a ≠ X.env.locals)
    (nC : ∀ x c, X.env.cells.lookup x = some c → c ≠ a) (nP : ∀ p ∈ X.pn ++ pins, p.1 ≠ a) (n0 : X.s_0.heap.get? a = none) : Inv X pins σ (upd H a (xob a C d)) s := by
  have ne : ∀ {b : Addr} {o : HO}, H b = some o → b ≠ a := fun h => ne_of_none h na
  have up : ∀ {b : Addr}, b ≠ a → upd H a (xob a C d) b = H b := fun h => upd_ne h
  refine ⟨I.ok, I.os, I.bare, ?_, I.loc, I.cell, ?_, fun x c e => ?_, fun p hp => ?_, ?_, I.len⟩
  · refine ⟨I.base.keep, I.base.slot, fun b o e n hx => ?_, I.base.there, fun b xs e => ?_, fun b o u e => ?_, fun b ps e => ?_⟩
    · have hb : b ≠ a := fun z => by
        rw [z, n0] at e
        cases e
      rw [up hb]
      exact I.base.free b o e n hx
    · have h := I.base.tups b xs e
      rw [up (ne h)]
      exact h
    · have h := I.base.frzs b o u e
      rw [up (ne h)]
      exact h
    · obtain ⟨more, h⟩ := I.base.tbls b ps e
      exact ⟨more, by rw [up (ne h)]; exact h⟩
  · rw [up nL.symm]
    exact I.free
  · rw [up (nC x c e)]
    exact I.freeC x c e
  · obtain ⟨g1, g2, g3, g4, g5⟩ := I.pin p hp
    exact ⟨g1, by rw [up (nP p hp)]; exact g2, g3, g4, g5⟩
  · intro b o e
    by_cases hb : b = a
    · subst hb
      rw [upd_same] at e
      cases e
      exact xob_ok ha hz hd
    · rw [up hb] at e
      exact (I.hok b o e).stay (fun _ _ _ g => g) (fun c g => by rw [up (ne g)]; exact g) fun c xs g => by rw [up (ne g)]; exact g
end
/-- what the clause wishes: behind the suite the exception at a stays known -/
def wKeep (K : PySem.W.Frag) (c : Value) (i : Nat) (ts : Addr → Value → Option Addr → TS) (D : Ends) : WX := fun cls d σ H =>
  PySem.W.exmOne K cls c = some true ∧ ∃ C, cls = .ref C ∧ ∀ a, H a = none → ts a cls d { nx := fun σ2 H2 => D.nx (σ2.set i none) (upd H2 a (xob a C d)), rt := fun _ _ => False } (σ.set i (some (.ref a))) H
section
variable {X : Cx} {x n : Str} {c : Value} {i : Nat} {body su : List Stmt} {st0 : Stmt} {np pos pos2 : Pos} {tb : WX → TS} {ts : Addr → Value → Option Addr → TS}
theorem ps_try_keep (hst : X.stack = X.env :: X.outer) (hfr : X.env.frame = some X.env.locals) (hex : X.ex = []) (nd : X.N.Nodup) (hni : X.N[i]? = some n) (hnl : X.env.kindOf n = some .local) (hnm : Names X x c)
    (hbody : ∀ (W : WX) (pn : List (Addr × Obj)) (xe : Value → Shared → Prop), Takes (X.tr pn xe) W → PassesOwn (model X.prog X.w) X.A X.env xe → PSs (X.tr pn xe) body (tb W))
    (hsuite : ∀ (a : Addr) (oe : Obj) (cls : Value) (d : Option Addr) (pn : List (Addr × Obj)), Zc cls d oe → (∃ vs, oe.data = .fields vs) → PSs (X.suite a ((a, oe) :: pn)) (st0 :: su) (ts a cls d)) :
    PS X (.Try body [.ExceptHandler (some (.Name x np)) (some n) (st0 :: su) pos2] [] [] pos) (fun D σ H => tb (wKeep X.K c i ts D) D σ H) := by
  refine ⟨fun pins s σ H D I hread => ?_⟩
  have ok := I.ok
  have frA : X.A.frames = some (X.env :: X.outer) := ok.frames.trans (congrArg some hst)
  let after : Value → Shared → Prop := fun er sA =>
    wpAny (model X.prog X.w) X.A (noteFrame er X.env) (fun _ sB => wpAny (model X.prog X.w) X.A (setFlight er none) (fun _ sC => wpAny (model X.prog X.w) X.A
      (handleBy er X.env [.ExceptHandler (some (.Name x np)) (some n) (st0 :: su) pos2]) (SP X pins D) X.xe sC) X.xe sB) X.xe sA
  refine wpAny_Try_except (wpAny_mono ((hbody (wKeep X.K c i ts D) (X.pn ++ pins) after (fun u sE xx => ?_) PassesOwn.looking).run [] s σ H D (I.toTry after) hread) (fun fl sE hE => ?_) (fun _ _ z => z))
  · obtain ⟨a, B, sI, pins', σI, HI, cls, d, rfl, JT, grd, upT, skyT, na, osE, bareE, hmat, C, rfl, hnext⟩ := xx
    have J : Inv X pins σI HI sI := JT.ofTry ok
    show wpAny (model X.prog X.w) X.A (noteFrame (.ref a) X.env) _ _ _
    refine Sky.land (s := sE) (Z := Zc (.ref C) d) Zc.steady frA hfr (by rw [← hst]; exact skyT) fun hG flG upG => ?_
    have JG : Inv X pins σI HI { sE with heap := hG } := J.landed grd flG.1 (upT.trans upG) osE bareE
    have off : ∀ {hh : Heap}, HandSPX.FlyingZ B (X.env :: X.outer) a (Zc (.ref C) d) hh → a ∉ frs (X.env :: X.outer) := fun {hh} fl hm => by
      obtain ⟨o1, v1, g1, _, g3⟩ := fl.there
      obtain ⟨_, o2, g4, g5⟩ := fl.2.2.1.mem hm
      rw [g1] at g4
      cases g4
      exact g5 _ g3
    have offS : a ∉ frs X.stack := by rw [hst]; exact off flG
    have nL : a ≠ X.env.locals := fun z => off flG (List.mem_filterMap.mpr ⟨X.env, List.mem_cons_self, by rw [z]; exact hfr⟩)
    have nF : a ∉ X.fs := fun hm => by
      obtain ⟨e1, g1, g2⟩ := List.mem_filterMap.mp hm
      exact off flG (List.mem_filterMap.mpr ⟨e1, List.mem_cons_of_mem _ g1, g2⟩)
    have nB : ∀ {b : Addr} {o : Obj}, sI.heap.get? b = some o → b ≠ a := fun {b o} g z => by
      have g2 := grd b o g (by rw [z]; exact offS)
      rw [z, flG.2.1] at g2
      cases g2
    obtain ⟨oG, vG, gG, zG, dG⟩ := flG.there
    have SG := JG.suite gG dG na nL nF
    refine wpAny_handleBy_cons (codeAny_handlers_test ?_) (by intro z; cases z)
    have LT : PySem.W.Looks (model X.prog X.w) hG (typeOf (.ref a)) (.ref C) := fun A1 Q1 E1 s1 keep hq => wpAny_typeOf_ref (keep _ _ gG) (by rw [zG.1]; exact hq)
    have LM := PySem.W.exm_one (M := model X.prog X.w) JG.kIn LT hmat
    have load : ∀ {Q1 : Value → Shared → Prop} {E1 : Value → Shared → Prop}, Q1 c { sE with heap := hG } → wpAny (model X.prog X.w) (X.A.mark (some (.ref a))) (eval (.Name x np) X.env) Q1 E1 { sE with heap := hG } := fun {Q1 E1} hq => by
      obtain ⟨g1, g2, g3 | ⟨g3, g4, g5⟩⟩ := hnm
      · exact ld_glob (X := X.suite a ((a, oG) :: (X.pn ++ pins))) SG g1 g3 hq g2
      · exact ld_blt (X := X.suite a ((a, oG) :: (X.pn ++ pins))) SG g1 g3 g4 hq g5 g2
    refine load (LM.here (codeAny_handlers_suite_as (HandSPX.lands_againZ flG fun hK flK upK => ?_)))
    have JK : Inv X pins σI HI { sE with heap := hK } := J.landed grd flK.1 ((upT.trans upG).trans upK) osE bareE
    obtain ⟨oK, vK, gK, zK, dK⟩ := flK.there
    refine store_ok (X := X.suite a ((a, oK) :: (X.pn ++ pins))) (v := .ref a) (JK.suite gK dK na nL nF) nd hni (.inl hnl) rfl (fun sM SM => ?_) (.inr hnl)
    refine wpAny_mono ((hsuite a oK (.ref C) d (X.pn ++ pins) zK ⟨_, dK⟩).run [] sM _ HI _ SM (hnext a na)) (fun fl sN hN => ?_) (fun _ _ z => z.elim)
    cases fl with
    | next =>
      obtain ⟨σN, HN, SN, qN⟩ := hN
      obtain ⟨gN, nN, _⟩ := SN.pin (a, oK) (List.mem_append_left _ List.mem_cons_self)
      have JN : Inv X pins σN HN sN := SN.unsuite ok
      have TN : Inv X pins σN (upd HN a (xob a C d)) sN := track JN gN zK dK nN nL (fun y cc g => by
          obtain ⟨v, o, g1, _⟩ := J.cell y cc g
          exact nB g1) (fun p hp => nB (J.pin p hp).1) (by
          cases g0 : X.s_0.heap.get? a with
          | none => rfl
          | some o =>
            obtain ⟨o2, g2⟩ := J.base.there a o g0 (by rw [hex]; exact List.not_mem_nil)
            exact absurd rfl (nB g2))
      exact gone_ok TN nd hni hnl fun s9 J9 => ⟨_, _, J9, qN⟩
    | brk =>
      obtain ⟨_, _, _, z⟩ := hN
      exact z.elim
    | cont =>
      obtain ⟨_, _, _, z⟩ := hN
      exact z.elim
    | ret u =>
      obtain ⟨_, _, _, _, _, z⟩ := hN
      exact z.elim
  · cases fl with
    | next =>
      obtain ⟨σN, HN, JN, qN⟩ := hE
      exact wpAny_execs_nil ⟨σN, HN, JN.ofTry ok, qN⟩
    | brk =>
      obtain ⟨σN, HN, JN, qN⟩ := hE
      exact ⟨σN, HN, JN.ofTry ok, qN⟩
    | cont =>
      obtain ⟨σN, HN, JN, qN⟩ := hE
      exact ⟨σN, HN, JN.ofTry ok, qN⟩
    | ret u =>
      obtain ⟨vN, σN, HN, JN, rN, qN⟩ := hE
      exact ⟨vN, σN, HN, JN.ofTry ok, rN, qN⟩
end
end Cv
set_option Elab.async false
set_option linter.all false
set_option maxRecDepth 100000
set_option maxHeartbeats 4000000
namespace Cv
open PySem PySem.Spec PyProof.Rows L2
/-! ### the law's own def runs where nothing is being shown (no guards): its promise there alone -/
structure FnAt (A : Around) (P : Program) (w : World) (K : PySem.W.Frag) (mg : Str → Option Value) (base : Heap) (k : Nat) (f : Addr) (fd : FuncData) (ps : List Str) (sp : Sp) : Prop where
  run : ∀ (outer : List Env) (s : Shared) (H : Hp) (args : Args) (us : List Value) (vs : List V) (Q : VK) (E : XK), Room k A → Env0 P w K mg base A outer s H → BindsTo s fd args (ps.zip us) → Vals vs us → sp vs H Q E →
    codeAny (model P w) A (.call (.ref f) args) (CR CX0 outer P w H s Q E) s
section
variable {P : Program} {w : World} {K : PySem.W.Frag} {mg : Str → Option Value} {base : Heap} {A : Around}
theorem fn_at {x qual : Str} {st : Stmt} {f : Addr} {fd : FuncData} {N ps : List Str} {k : Nat} {sp : Sp} (F : Fun K x qual st f fd) (S : FnScope N ps (defScope st)) (hlen : ∀ vs H Q E, sp vs H Q E → vs.length = ps.length)
    (hwalk : ∀ (cdv : Value) (outer : List Env) (s : Shared) (H : Hp) (vs : List V) (Q : VK) (E : XK), Room k (A.deeper (envOfC qual (defScope st) s.heap.objs.size f cdv)) → sp vs H Q E →
      ∃ t, PSs (cxOf CX0 P w K mg base N qual (defScope st) f cdv A outer s H E).nox (defBody st) t ∧ t { nx := fun _ H2 => Q .non H2, rt := Q } (start N vs) H) : FnAt A P w K mg base (k + 1) f fd ps sp := by
  obtain ⟨oc, od, kV, doc, pm, an, cdv, ct, osl, rfl, lk, hcd⟩ := F.ex
  constructor
  intro outer s H args us vs Q E room env0 bind vals asked
  have whole : K.In s.heap := env0.mod.kin.keeps fun b o g => (env0.bs b o g).1
  have nolim : s.heap.NoLimit := env0.mod.nolimit.keeps fun b o g => (env0.bs b o g).1
  refine codeAny_call_function room.depth (whole _ _ lk) rfl S.co S.gen rfl (PySem.W.codeRec_of whole hcd) (bind _ _ _ _ (wpAny_newFunctionEnv_cells S.kind (fun y hy => ?_) fun env he s1 made => ?_))
  · rcases S.par y.1 (List.of_mem_zip (show (y.1, y.2) ∈ ps.zip us from hy)).1 with g | g
    · exact .inl g
    · exact .inr ⟨g, PySem.W.cellsFrom_some _ _ _ (.inl g)⟩
  · subst he
    obtain ⟨t, term, reads⟩ := hwalk cdv outer s H vs Q E (room.deeper _) asked
    have I0 : Inv (cxOf CX0 P w K mg base N qual (defScope st) f cdv A outer s H E) [] (start N vs) H s1 := inv_start S room.hd env0 (hlen _ _ _ _ asked) vals made
    refine ⟨nolim.keeps made.toInCall.keep, codeAny_func (wpAny_mono (term.nox.run [] s1 _ H _ I0 reads) (fun fl s2 hs => ?_) fun _ _ hs => hs)⟩
    cases fl with
    | ret u =>
      obtain ⟨v, _, H2, J, rv, g⟩ := hs
      exact ⟨v, H2, J.os, J.bare, J.base, J.hok, rv, g⟩
    | next =>
      obtain ⟨_, H2, J, g⟩ := hs
      exact ⟨.non, H2, J.os, J.bare, J.base, J.hok, rfl, g⟩
    | brk =>
      obtain ⟨_, _, _, g⟩ := hs
      exact g.elim
    | cont =>
      obtain ⟨_, _, _, g⟩ := hs
      exact g.elim
end
/-- nothing is tracked but the script, and the tables of the code objects cs -/
theorem law_atT {P : Program} {w : World} {K : PySem.W.Frag} {mg mb : Str → Option Value} {k : Nat} {fa a : Addr} {cs : List (Addr × Addr)} {fd : FuncData} {x : Str} {sp : Sp} {s1 : Shared} {vs : List Value} {ns : List Int}
    (kin : K.In s1.heap) (glob : s1.heap.Ns mainGlobals mg) (blt : s1.heap.Ns builtinsNs mb) (bltB : ∀ y : Str, y ≠ "__name__" → mb y = bootBuiltins y) (nolim : s1.heap.NoLimit) (hgen : s1.gens = #[])
    (tabs : ∀ q ∈ cs, PySem.W.CodeHd s1.heap q.1 q.2 ∧ s1.heap.get? q.2 = some { cls := .none, data := .fields #[] }) (offK : ∀ q ∈ cs, K.lookup q.2 = none)
    (bm : ∃ (m : Addr) (om : Obj), mg "__builtins__" = some (.ref m) ∧ m ≠ builtinsNs ∧ s1.heap.get? m = some om ∧ om.cls = .type "module" ∧ om.dict = some builtinsNs ∧ om.data = .plain)
    (ha : s1.heap.get? a = some { cls := .type "list", data := .seq vs.toArray }) (hin : IntsAre vs ns) (hlen : ns.length ≤ sizeLine) (room : Room k callerA)
    (F : ∀ base : Heap, K.In base → base.Ns mainGlobals mg → (∀ q ∈ cs, GxR.TabB base mg q.1 q.2) → FnAt callerA P w K mg base k fa fd [x] sp) (bind : ∀ (s : Shared) (u : Value), BindsTo s fd ⟨[u], []⟩ [(x, u)])
    (asked : ∀ H : Hp, (∀ q ∈ cs, H q.2 = some (.tbl #[])) → SqL K H a (ns.map V.int) → sp [.ref a] H (fun v _ => v = .bl true) fun _ _ _ => False) :
    codeAny (model P w) callerA (.call (.ref fa) ⟨[.ref a], []⟩) (fun r s2 => r = .ok (.ret (.bool true)) ∧ OldK s1.heap s2.heap ∧ s2.os = s1.os ∧ AllBare s2.gens) s1 := by
  have nvs : vs.length = ns.length := hin.length
  let ob : Obj := { cls := .type "list", data := .seq vs.toArray }
  have tabAt : ∀ {b : Addr}, b ∈ cs.map (·.2) → s1.heap.get? b = some { cls := .none, data := .fields #[] } ∧ K.lookup b = none := fun {b} g => by
    obtain ⟨q, hq, rfl⟩ := List.mem_map.mp g
    exact ⟨(tabs q hq).2, offK q hq⟩
  have na : a ∉ cs.map (·.2) := fun z => by
    have g := (tabAt z).1
    rw [ha] at g
    cases (show Data.seq vs.toArray _ = Data.fields #[] from congrArg Obj.data (Option.some.inj g))
  have main : ∀ H : Hp, (∀ q ∈ cs, H q.2 = some (.tbl #[])) → (∀ b, (H b = none ∧ b ∉ cs.map (·.2)) ∨ (b = a ∧ K.lookup a = none ∧ H b = some (.frz ob (.lst (ns.map V.int)))) ∨ (b ∈ cs.map (·.2) ∧ H b = some (.tbl #[]))) → SqL K H a (ns.map V.int) →
      codeAny (model P w) callerA (.call (.ref fa) ⟨[.ref a], []⟩) (fun r s2 => r = .ok (.ret (.bool true)) ∧ OldK s1.heap s2.heap ∧ s2.os = s1.os ∧ AllBare s2.gens) s1 := by
    intro H tb only seq
    have held : HOk P w H s1.heap := fun b o g => by
      rcases only b with ⟨z, _⟩ | ⟨rfl, _, z⟩ | ⟨m, z⟩
      · rw [z] at g
        cases g
      · rw [z] at g
        cases g
        exact ⟨ha, by rw [List.length_map]; exact hlen, vs, _, vals_ints hin, ha⟩
      · rw [z] at g
        cases g
        exact (tabAt m).1
    -- what is neither a list nor a table stays in sight
    have seen : ∀ {b : Addr} {o : Obj}, s1.heap.get? b = some o → (∀ us n, o.data ≠ .seq us n) → o.data ≠ .fields #[] → H b = none := fun {b o} g n1 n2 => by
      rcases only b with ⟨z, _⟩ | ⟨rfl, _, _⟩ | ⟨m, _⟩
      · exact z
      · rw [ha] at g
        cases g
        exact absurd rfl (n1 _ _)
      · rw [(tabAt m).1] at g
        cases g
        exact absurd rfl n2
    have put : ∀ {b : Addr} {m : Str → Option Value}, s1.heap.Ns b m → (hidT s1.heap H).Ns b m := fun {b m} h => by
      obtain ⟨o, es, ep, g, dat, more⟩ := h
      refine ⟨o, es, ep, hidT_get g (seen g (fun us n z => ?_) fun z => ?_), dat, more⟩ <;> (rw [dat] at z; cases z)
    have kinB : K.In (hidT s1.heap H) := fun b o g => hidT_get (kin b o g) (by
      rcases only b with ⟨z, _⟩ | ⟨rfl, z2, _⟩ | ⟨m, _⟩
      · exact z
      · rw [z2] at g
        cases g
      · rw [(tabAt m).2] at g
        cases g)
    have noLB : (hidT s1.heap H).NoLimit := by
      obtain ⟨mc, g1, g2⟩ := nolim
      exact ⟨mc, put g1, g2⟩
    have TB : ∀ q ∈ cs, GxR.TabB (hidT s1.heap H) mg q.1 q.2 := fun q hq => by
      obtain ⟨hd, emp⟩ := tabs q hq
      refine ⟨?_, ?_, fun z => ?_⟩
      · obtain ⟨o, us, file, tf, flags, tg, inF, text, tt, e1, r1, r2, r3, rest⟩ := hd
        refine ⟨o, us, file, tf, flags, tg, inF, text, tt, hidT_get e1 (seen e1 (fun us n z => ?_) fun z => ?_), r1, r2, r3, rest⟩
        · rw [r2] at z
          cases z
        · rw [r2] at z
          cases z
          simp at r3
      · obtain ⟨m, om, b1, b2, b3, b4, b5, b6⟩ := bm
        refine ⟨m, om, b1, b2, fun z => ?_, fun z => ?_, hidT_get b3 (seen b3 (fun us n z => ?_) fun z => ?_), b4, b5, b6⟩
        · obtain ⟨o, es, ep, g, dat, _⟩ := glob
          rw [z, g] at b3
          cases b3
          rw [dat] at b6
          cases b6
        · rw [z, emp] at b3
          cases b3
          cases b6
        · rw [b6] at z
          cases z
        · rw [b6] at z
          cases z
      · obtain ⟨o, es, ep, g, dat, _⟩ := glob
        rw [z, emp] at g
        cases g
        cases dat
    have env0 : Env0 P w K mg (hidT s1.heap H) callerA [] s1 H := by
      refine ⟨rfl, ⟨kinB, put glob, ⟨mb, put blt, bltB⟩, noLB⟩, fun b o g => of_hidT g, Nat.le_of_eq (hidT_size _ _), trivial, fun b hb => ?_, held, .of_eq hgen⟩
      exact absurd (show b ∈ ([] : List Addr) from hb) List.not_mem_nil
    refine codeAny_mono ((F _ kinB (put glob) TB).run [] s1 H ⟨[.ref a], []⟩ [.ref a] [.ref a] (fun v _ => v = .bl true) (fun _ _ _ => False) room env0 (bind s1 (.ref a)) (.cons rfl .nil) (asked H tb seq)) fun r s2 hr => ?_
    cases r with
    | error er => exact False.elim hr
    | ok fl =>
      cases fl with
      | ret u =>
        obtain ⟨v, H2, os2, bare2, un2, held2, rv, told⟩ := hr
        have told2 : v = .bl true := told
        subst told2
        obtain rfl : u = Value.bool true := rv
        have stays : ∀ b o, b ∉ cs.map (·.2) → s1.heap.get? b = some o → s2.heap.get? b = some o := fun b o nb g => by
          rcases only b with ⟨z, _⟩ | ⟨rfl, _, z⟩ | ⟨m, _⟩
          · exact un2.keep b o g z (fun hb => absurd (show b ∈ ([] : List Addr) from hb) List.not_mem_nil) List.not_mem_nil
          · have z2 := un2.frzs b ob _ z
            obtain ⟨g2, _⟩ := held2 b _ z2
            rw [ha] at g
            cases g
            exact g2
          · exact absurd m nb
        have grows : ∀ q ∈ cs, ∃ more : Array Value, s2.heap.get? q.2 = some { cls := .none, data := .fields more } := fun q hq => by
          obtain ⟨more, z⟩ := un2.tbls q.2 #[] (tb q hq)
          exact ⟨_, held2 q.2 _ z⟩
        refine ⟨rfl, ⟨fun b o g => ?_, fun b o g => ?_⟩, os2, bare2⟩
        · by_cases m : b ∈ cs.map (·.2)
          · obtain ⟨q, hq, rfl⟩ := List.mem_map.mp m
            obtain ⟨more, hm⟩ := grows q hq
            rw [(tabs q hq).2] at g
            cases g
            exact .inr (.inl ⟨((tabs q hq).1.tab (tabs q hq).2).isCodeTable, rfl, #[], more, rfl, by rw [Array.empty_append]; exact hm⟩)
          · exact .inl (stays b o m g)
        · by_cases m : b ∈ cs.map (·.2)
          · obtain ⟨q, hq, rfl⟩ := List.mem_map.mp m
            obtain ⟨more, hm⟩ := grows q hq
            exact ⟨_, hm⟩
          · exact ⟨o, stays b o m g⟩
      | next => exact False.elim hr
      | brk => exact False.elim hr
      | cont => exact False.elim hr
  have memq : ∀ q ∈ cs, q.2 ∈ cs.map (·.2) := fun q hq => List.mem_map.mpr ⟨q, hq, rfl⟩
  cases hk : K.lookup a with
  | none =>
    refine main (fun b => if b = a then some (.frz ob (.lst (ns.map V.int))) else if b ∈ cs.map (·.2) then some (.tbl #[]) else none) (fun q hq => ?_) (fun b => ?_) (.inl (.inr ⟨ob, if_pos rfl⟩))
    · have n1 : ¬ q.2 = a := fun z => na (by rw [← z]; exact memq q hq)
      exact (if_neg n1).trans (if_pos (memq q hq))
    · by_cases hb : b = a
      · exact .inr (.inl ⟨hb, hk, if_pos hb⟩)
      · by_cases hm : b ∈ cs.map (·.2)
        · exact .inr (.inr ⟨hm, (if_neg hb).trans (if_pos hm)⟩)
        · exact .inl ⟨(if_neg hb).trans (if_neg hm), hm⟩
  | some o =>
    have g := kin a o hk
    rw [ha] at g
    cases g
    refine main (fun b => if b ∈ cs.map (·.2) then some (.tbl #[]) else none) (fun q hq => if_pos (memq q hq)) (fun b => ?_) (.inr ⟨_, vs.toArray, _, hk, rfl, rfl, rfl, by rw [List.size_toArray, nvs]; exact hlen, by simpa using vals_ints hin⟩)
    by_cases hm : b ∈ cs.map (·.2)
    · exact .inr (.inr ⟨hm, if_pos hm⟩)
    · exact .inl ⟨if_neg hm, hm⟩
/-- the tables of the defs that the view holds -/
def TabsOf (q : Program) (K : PySem.W.Frag) (h : Heap) : Prop := ∀ (x : Str) (c T : Addr), ((PyProof.Rows.recsOf q).find? fun e => e.name == x).isSome = true → PySem.W.tabIn K x = some (c, T) → (PySem.W.CodeHd h c T ∧ h.get? T = some { cls := .none, data := .fields #[] }) ∧ K.lookup T = none
/-- what is known of the law's own def -/
def LawT (P : Program) (w : World) (K : PySem.W.Frag) (k n : Nat) (x : Str) (mg : Str → Option Value) (fa : Addr) (h : Heap) : Prop :=
  ∃ (fd : FuncData) (cs : List (Addr × Addr)) (sp : Sp), (∀ q ∈ cs, (PySem.W.CodeHd h q.1 q.2 ∧ h.get? q.2 = some { cls := .none, data := .fields #[] }) ∧ K.lookup q.2 = none) ∧ (∀ (s : Shared) (u : Value), BindsTo s fd ⟨[u], []⟩ [(x, u)]) ∧
    (∀ (H : Hp) (a : Addr) (ns : List Int), ns.length ≤ n → (∀ q ∈ cs, H q.2 = some (.tbl #[])) → SqL K H a (ns.map V.int) → sp [.ref a] H (fun v _ => v = .bl true) fun _ _ _ => False) ∧
    ∀ base : Heap, K.In base → base.Ns mainGlobals mg → (∀ q ∈ cs, GxR.TabB base mg q.1 q.2) → FnAt callerA P w K mg base k fa fd [x] sp
/-- the goal behind the head -/
theorem walk_atT {l : PySem.W.OpenLaw} {n k : Nat} {q : Program} {loose : List Str} {XP : (Str → Option Value) → Heap → Prop} {YP : World → Heap → Prop} {d : DefRec} {K : Params → PySem.W.Frag} {x : Str}
    (hn : l.most = some n) (hn2 : n ≤ sizeLine) (hdf : d.params.defaults = []) (room : Room k callerA) (hY : ∀ (w : World) (h : Heap), YP w h → (K w.params).In h) (hK : ∀ w : World, PySem.W.noTabs (K w.params) = true)
    (F : ∀ (w : World) (mg : Str → Option Value) (fa : Addr) (h : Heap), (K w.params).In h → h.Ns mainGlobals mg → mg d.name = some (.ref fa) → TabsOf q (K w.params) h → LawT l.prog w (K w.params) k n x mg fa h) :
    PySem.W.WalkO q loose XP YP l.row.toRowW d [] (fun f vs => PySem.call f vs) := by
  refine Att.attach_call hn hdf fun w s0 s1 mg mb fa o pm cd doc a vs ns G Y ho hd hcd hmg hobj hints hlen hgen => ?_
  have tabs : TabsOf q (K w.params) s1.heap := fun y c T e1 e2 => by
    obtain ⟨r, hr⟩ := Option.isSome_iff_exists.mp e1
    have z := PySem.W.tab_of G.T (hY w _ Y) hr e2
    refine ⟨z, ?_⟩
    cases e : (K w.params).lookup T with
    | none => rfl
    | some o =>
      have g := hY w _ Y T o e
      rw [z.2] at g
      cases g
      have h2 := List.all_eq_true.mp (hK w) _ (PySem.W.mem_of_lookupK e)
      exact absurd (show false = true from h2) Bool.false_ne_true
  obtain ⟨fd, cs, sp, t1, bind, asked, prom⟩ := F w mg fa _ (hY w _ Y) G.T.g hmg tabs
  exact law_atT (hY w _ Y) G.T.g G.T.b G.T.builtins G.T.nolimit hgen (fun q hq => (t1 q hq).1) (fun q hq => (t1 q hq).2) G.T.bmain hobj hints (Nat.le_trans hlen hn2) room prom bind fun H tb seq => asked H a ns hlen tb seq
section
variable {X : Cx}
theorem inst_at0 {pins : List (Addr × Obj)} {σ : L2.St} {H : Hp} {s : Shared} {a C : Addr} (I : Inv X pins σ H s) (ha : H a = some (xob a C none)) : ∃ oe : Obj, PySem.W.InstAt s.heap a oe C none := by
  obtain ⟨oe, vs, g, hz, dat⟩ := xob_at I.hok ha
  refine ⟨oe, ⟨g, hz.1, ?_, ?_⟩⟩
  · unfold PySem.W.notCls
    rw [dat] <;> rfl
  · rw [hz.2]
    exact trivial
def rIs0 (K : PySem.W.Frag) : List V → Hp → VK → Prop := fun xs H Q => ∃ (a C : Addr) (c : V) (u : Value) (b : Bool), xs = [.ref a, c] ∧ H a = some (xob a C none) ∧ ClsV c u ∧ ExcC K C ∧ PySem.W.kitOne K (.ref C) u = some b ∧ Q (.bl b) H
def rIs0T (K : PySem.W.Frag) : List V → Hp → VK → Prop := fun xs H Q => ∃ (a C tp : Addr) (cs : List V) (us : List Value) (b : Bool), xs = [.ref a, .ref tp] ∧ H a = some (xob a C none) ∧ H tp = some (.tup cs) ∧ Paired ClsV cs us ∧ ExcC K C ∧ PySem.W.kitAny K (.ref C) us = some b ∧ Q (.bl b) H
theorem kit_x {K : PySem.W.Frag} {a C : Addr} {oe : Obj} {od : Option Obj} (T : ExcC K C) : PySem.W.KitX K (.ref a) (.ref C) (fun h => PySem.W.InstAt h a oe C od) := by
  obtain ⟨cd, hc, _⟩ := PySem.W.any_some T.hd
  exact PySem.W.kitx_exc (by rw [hc]; rfl) T.hg T.hk T.hs T.ha T.hn T.ht T.hm
theorem call_is0 : CallR X (.builtin "isinstance") (rIs0 X.K) := by
  intro pins s σ H xs us Q I r h
  obtain ⟨a, C, c, u, b, rfl, ha, k, T, e, q⟩ := h
  obtain ⟨u1, u2, rfl, r1, r2⟩ := vals2 r
  obtain rfl := k.eq r2
  cases (show u1 = Value.ref a from r1)
  obtain ⟨oe, J⟩ := inst_at0 I ha
  exact PySem.W.kia_one (kit_x T) I.kIn J e (fun z => nomatch z) fun tk => ⟨.bl b, H, I.tok tk, rfl, q⟩
theorem call_is0T : CallR X (.builtin "isinstance") (rIs0T X.K) := by
  intro pins s σ H xs us Q I r h
  obtain ⟨a, C, tp, cs, ws, b, rfl, ha, hT, k, T, e, q⟩ := h
  obtain ⟨u1, u2, rfl, r1, r2⟩ := vals2 r
  cases (show u1 = Value.ref a from r1)
  cases (show u2 = Value.ref tp from r2)
  obtain ⟨oe, J⟩ := inst_at0 I ha
  obtain ⟨_, its, rv, ⟨oc, odd, dt, sl⟩, g1, g2, n, g3⟩ := (show ObjOk X.prog X.w H s.heap tp (.tup cs) from I.hok tp _ hT)
  obtain rfl := ClsV.all k rv
  simp only at g2 g3
  subst g2 g3
  exact PySem.W.kia_tup (kit_x T) I.kIn J g1 e (fun z => nomatch z) fun tk => ⟨.bl b, H, I.tok tk, rfl, q⟩
/-- repr(x), x a list or a tuple of data, where nothing is being shown -/
theorem call_reprD (hg : X.A.guards = some []) : CallR X (.builtin "repr") (fun xs H Q => ∃ (a : Addr) (d : PyData), xs = [.ref a] ∧ Dp X.K H (.ref a) d ∧ d.showable = true ∧ d.hasDict = false ∧ X.A.units + (d.depth + 1) < cLine ∧ d.shown.length ≤ sizeLine ∧ Q (.str d.shown) H) := by
  intro pins s σ H xs us Q I r h
  obtain ⟨a, d, rfl, hd, h1, h2, h3, h4, q⟩ := h
  obtain ⟨u, rfl, rx⟩ := vals1 r
  obtain rfl : u = Value.ref a := rx
  obtain ⟨as, rd⟩ := Dp.reads I d (.ref a) (.ref a) hd rfl
  exact repr_of_reads' rd h1 (PyData.noDict_hsm h2) hg h3 (fun _ _ g => g) (fun h' u tk hk => ⟨.str d.shown, H, I.kept (t' := tk) hk, ⟨u, rfl⟩, q⟩) h4
/-- what is never come to -/
theorem ps_nev {st : Stmt} : PS X st (fun _ _ _ => False) := ⟨fun _ _ _ _ _ _ h => h.elim⟩
theorem pss_nev {sts : List Stmt} : PSs X sts (fun _ _ _ => False) := ⟨fun _ _ _ _ _ _ h => h.elim⟩
theorem pe_nev {e : Expr} : PE X e (fun _ _ _ => False) := ⟨fun _ _ _ _ _ _ h => h.elim⟩
end
end Cv
set_option Elab.async false
set_option linter.all false
set_option maxRecDepth 100000
set_option maxHeartbeats 1000000
namespace Cv
open PySem PySem.Spec PyProof.Rows L2
/-! ### what is no plan is refused -/
/-- an own class of errors at C, without a value of its own -/
structure OwnX (K : PySem.W.Frag) (mg : Str → Option Value) (nm : Str) (C : Addr) : Prop where
  g : mg nm = some (.ref C)
  x : PySem.W.excIn K C [.type "ValueError", .type "Exception", .type "BaseException", .type "object"] "ValueError.__new__" = true
  k : PySem.W.keepIn K (.ref C) = true
  b : PySem.W.subIn K (.ref C) (.type "BaseException") = some true
  t : PySem.W.typeIn K (.ref C) = some (.type "type")
abbrev sNp : Stmt := topS 24
theorem scNp : FnScope ["plan"] ["plan"] (defScope sNp) := ⟨rfl, rfl, rfl, by decide +kernel, rfl, by decide +kernel, by decide +kernel⟩
/-- a plan is let by, another thing refused -/
def spNp (C : Addr) (K : PySem.W.Frag) (P1 P2 : Addr) : Sp := fun vs H Q E => ∃ (v : V) (d : PyData), vs = [v] ∧ Dp K H v d ∧ wt d ≤ 100000 ∧ Tabs P1 P2 H ∧
  (wrongD d = .none → ∀ H', Tx P1 P2 H H' → Q .non H') ∧ (wrongD d ≠ .none → ∀ H', Tx P1 P2 H H' → E (.ref C) none H')
section
variable {P : Program} {w : World} {K : PySem.W.Frag} {mg : Str → Option Value} {base : Heap}
theorem ok_np {f fW C P1 P2 : Addr} {fd fdW : FuncData} {k : Nat} (F : Fun K "need_plan" "need_plan" sNp f fd) (W : At P w K mg base CX0 k "plan_wrong" fW fdW ["thing"] (spPw K P1 P2)) (X : OwnX K mg "NoPlan" C) : FnOk P w K mg base (CX P w) (k + 1) f fd ["plan"] (spNp C K P1 P2) := by
  refine F.okX scNp (fun vs H Q E h => ?_) (fun cdv A outer s H vs Q E hr h => ?_)
  · obtain ⟨v, d, rfl, _⟩ := h
    rfl
  · obtain ⟨v, d, rfl, hd, hw, ht, q1, q2⟩ := h
    refine ⟨_, pss_one (ps_if (pt_cmpR op_notN (pe_call W.ok hr (by rfl) W.g W.kp W.b .nil pass0 (pa_cons (pv 0) pa_nil)) pe_non rfl)
      (pss_one (ps_raise rfl (takes_of rfl rfl rfl rfl) (pmk_own PySem.F.excBase_ValueError X.x X.g X.k (raises_own X.b X.t) (by rfl)))) pss_nil), ?_⟩
    refine ⟨v, rfl, v, d, rfl, hd, hw, ht, fun H' r x hr2 => ?_⟩
    refine ⟨rfl, _, rfl, ite2 (fun e => ?_) (fun e => ?_)⟩
    · refine q2 (fun z => ?_) H' x
      rw [z] at hr2
      cases hr2
      exact ndT e rfl
    · have e2 : r = .non := ndF e
      subst e2
      refine q1 ?_ H' x
      generalize wrongD d = y at hr2
      cases hr2
      rfl
/-! ### what asks for a plan first -/
/-- called with what is no plan -/
def spRef (C : Addr) (K : PySem.W.Frag) (P1 P2 : Addr) (us : List V) : Sp := fun vs H _ E => ∃ (v : V) (d : PyData), vs = v :: us ∧ Dp K H v d ∧ wt d ≤ 100000 ∧ Tabs P1 P2 H ∧ wrongD d ≠ .none ∧ ∀ H', Tx P1 P2 H H' → E (.ref C) none H'
/-- a def whose first row asks for a plan -/
theorem ok_ref {nm : Str} {st : Stmt} {rest : List Stmt} {N ps : List Str} {f fN C P1 P2 : Addr} {fd fdN : FuncData} {k : Nat} {us : List V} {p1 p2 p3 p4 : Pos} (F : Fun K nm nm st f fd) (S : FnScope ("plan" :: N) ("plan" :: ps) (defScope st))
    (hb : defBody st = .Expr (.Call (.Name "need_plan" p1) [.Name "plan" p2] [] p3) p4 :: rest) (hu : us.length = ps.length) (hn : Vis (defScope st) "plan") (hg : (defScope st).names.lookup ("need_plan" : Str) = some NameKind.globalImplicit)
    (G : FnOk P w K mg base (CX P w) k fN fdN ["plan"] (spNp C K P1 P2)) (kN : PySem.W.keepIn K (.ref fN) = true) (bN : Binds K fdN ["plan"] []) (gN : mg "need_plan" = some (.ref fN)) : FnOk P w K mg base (CX P w) (k + 1) f fd ("plan" :: ps) (spRef C K P1 P2 us) := by
  refine F.okX S (fun vs H Q E h => ?_) (fun cdv A outer s H vs Q E hr h => ?_)
  · obtain ⟨v, d, rfl, _⟩ := h
    rw [List.length_cons, List.length_cons, hu]
  · obtain ⟨v, d, rfl, hd, hw, ht, no, q⟩ := h
    rw [hb]
    refine ⟨_, pss_cons (ps_expr (pe_call (E := E) G hr hg gN kN bN .nil (passes_call (takes_of rfl rfl rfl rfl) (fun _ _ _ _ h => h)) (pa_cons (pv 0 (hv := hn)) pa_nil))) pss_nev, ?_⟩
    exact ⟨v, rfl, v, d, rfl, hd, hw, ht, fun z => absurd z no, fun _ => q⟩
end
end Cv
set_option Elab.async false
set_option linter.all false
set_option maxRecDepth 100000
set_option maxHeartbeats 1000000
namespace Cv
open PySem PySem.Spec PyProof.Rows L2
/-! ### the heap without the purse -/
def hid (p c : Addr) (H : Hp) : Hp := fun a => if a = p ∨ a = c then none else H a
theorem hid_at {p c a : Addr} {H : Hp} (h1 : a ≠ p) (h2 : a ≠ c) : hid p c H a = H a := if_neg fun h => h.elim h1 h2
theorem hid_le {p c : Addr} {H : Hp} : Same (hid p c H) H := fun a o e => by
  unfold hid at e
  split at e
  · cases e
  · exact e
theorem hid_off {p c a : Addr} {H : Hp} {o : HO} (e : hid p c H a = some o) : a ≠ p ∧ a ≠ c := by
  unfold hid at e
  split at e
  · cases e
  · rename_i h
    exact ⟨fun z => h (.inl z), fun z => h (.inr z)⟩
theorem hid_kp {p c : Addr} {H H' : Hp} (k : Kp p c H H') : Same (hid p c H) (hid p c H') := fun a o e => by
  obtain ⟨h1, h2⟩ := hid_off e
  rw [hid_at h1 h2] at e ⊢
  exact k a o h1 h2 e
theorem hid_same {p c : Addr} {H H' : Hp} (k : Same H H') : Same (hid p c H) (hid p c H') := hid_kp (Kp.of k)
theorem hid_ky {p c : Addr} {H H' : Hp} (k : Ky H H') : Ky (hid p c H) (hid p c H') := ⟨fun a o n e => by
  obtain ⟨h1, h2⟩ := hid_off e
  rw [hid_at h1 h2] at e ⊢
  exact k a o n e, fun a ⟨ps, e, r⟩ => by
  obtain ⟨h1, h2⟩ := hid_off e
  rw [hid_at h1 h2] at e
  obtain ⟨qs, e2, r2⟩ := k.tb a ⟨ps, e, r⟩
  exact ⟨qs, by rw [hid_at h1 h2]; exact e2, r2⟩⟩
theorem hid_sqT {K : PySem.W.Frag} {p c a : Addr} {T : Nat} {H : Hp} {xs : List V} (hP : Pur H p c T) (h : SqT K H a xs) : SqT K (hid p c H) a xs := by
  obtain ⟨cs, k, hp, hc, _⟩ := hP
  rcases h with (h | ⟨o, h⟩) | h
  · exact .inl (.inl (by rw [hid_at (ne_of h hp fun z => nomatch z) (ne_of h hc fun z => nomatch z)]; exact h))
  · exact .inl (.inr ⟨o, by rw [hid_at (ne_of h hp fun z => nomatch z) (ne_of h hc fun z => nomatch z)]; exact h⟩)
  · exact .inr h
/-! ### what an expression yields, nothing changed -/
def YE (te : TE) (σ : L2.St) (H : Hp) (R : V → Hp → Prop) : Prop := ∀ Q : VK, (∀ v H', Same H H' → R v H' → Q v H') → te σ H Q
def YA (ta : TA) (σ : L2.St) (H : Hp) (R : List V → Hp → Prop) : Prop := ∀ Q : List V → Hp → Prop, (∀ vs H', Same H H' → R vs H' → Q vs H') → ta σ H Q
theorem ye_var {i : Nat} {σ : L2.St} {H : Hp} {v : V} {R : V → Hp → Prop} (h : σ[i]? = some (some v)) (r : R v H) : YE (tVar i) σ H R := fun Q q => ⟨v, h, q v H (Same.refl _) r⟩
theorem ye_c {v : V} {σ : L2.St} {H : Hp} {R : V → Hp → Prop} (r : R v H) : YE (tC v) σ H R := fun Q q => q v H (Same.refl _) r
theorem YE.mono {te : TE} {σ : L2.St} {H : Hp} {R R' : V → Hp → Prop} (h : YE te σ H R) (m : ∀ v H', Same H H' → R v H' → R' v H') : YE te σ H R' := fun Q q => h Q fun v H' s r => q v H' s (m v H' s r)
section
variable {K : PySem.W.Frag} {p c : Addr} {σ : L2.St} {H : Hp}
/-- a small thing, off the purse -/
def GoodA (K : PySem.W.Frag) (p c : Addr) (n : Nat) (v : V) (H : Hp) : Prop := Good K n v (hid p c H)
theorem GoodA.same {n : Nat} {v : V} {H' : Hp} (h : GoodA K p c n v H) (s : Same H H') : GoodA K p c n v H' := Good.ky h (.of (hid_same s))
theorem GoodA.kp {n : Nat} {v : V} {H' : Hp} (h : GoodA K p c n v H) (s : Kp p c H H') : GoodA K p c n v H' := Good.ky h (.of (hid_kp s))
theorem GoodA.ky {n : Nat} {v : V} {H' : Hp} (h : GoodA K p c n v H) (s : Ky H H') : GoodA K p c n v H' := Good.ky h (hid_ky s)
theorem good_str {n : Nat} {z : Str} (h : pl (.str z) = true) (l : 10 * z.length + 2 ≤ n) : GoodA K p c n (.str z) H := ⟨.str z, .str z, h, by rw [wt]; exact l⟩
theorem good_int {n : Nat} {i : Int} (h0 : 0 ≤ i) (h1 : i ≤ 1000000) (l : 40 ≤ n) : GoodA K p c n (.int i) H := ⟨.int i, .int i, by first | (rw [pl, decide_eq_true h0, decide_eq_true h1]; rfl) | (rw [pl]; exact decide_eq_true (by omega)), by rw [wt]; omega⟩
theorem good_non {n : Nat} (l : 4 ≤ n) : GoodA K p c n .non H := ⟨.none, .non, rfl, by rw [wt]; exact l⟩
theorem good_bl {n : Nat} {b : Bool} (l : 5 ≤ n) : GoodA K p c n (.bl b) H := ⟨.bool b, .bl b, rfl, by rw [wt]; exact l⟩
/-- m small things -/
def GoodAs (K : PySem.W.Frag) (p c : Addr) (n m : Nat) (vs : List V) (H : Hp) : Prop := vs.length = m ∧ ∀ v ∈ vs, GoodA K p c n v H
theorem ya_nil {n : Nat} : YA tNil σ H (GoodAs K p c n 0) := fun Q q => q [] H (Same.refl _) ⟨rfl, fun v h => absurd h List.not_mem_nil⟩
theorem ya_cons {te : TE} {ta : TA} {n m : Nat} (h1 : YE te σ H (GoodA K p c n)) (h2 : ∀ H', Same H H' → YA ta σ H' (GoodAs K p c n m)) : YA (tCons te ta) σ H (GoodAs K p c n (m + 1)) := fun Q q => by
  refine h1 _ fun v H1 s1 g1 => h2 H1 s1 _ fun vs H2 s2 g2 => q (v :: vs) H2 (s1.trans s2) ⟨by rw [List.length_cons, g2.1], fun x hx => ?_⟩
  rcases List.mem_cons.mp hx with rfl | hx
  · exact g1.same s2
  · exact g2.2 x hx
/-- a list of m small things, off the purse -/
def LstG (K : PySem.W.Frag) (p c : Addr) (n m : Nat) (v : V) (H : Hp) : Prop := ∃ l xs, v = .ref l ∧ l ≠ p ∧ l ≠ c ∧ H l = some (.lst xs) ∧ xs.length = m ∧ ∀ x ∈ xs, GoodA K p c n x H
/-- a tuple of at most m small things -/
def TupG (K : PySem.W.Frag) (p c : Addr) (n m : Nat) (v : V) (H : Hp) : Prop := ∃ a xs, v = .ref a ∧ SqT K H a xs ∧ xs.length ≤ m ∧ ∀ x ∈ xs, GoodA K p c n x H
theorem LstG.same {n m : Nat} {v : V} {H' : Hp} (h : LstG K p c n m v H) (s : Same H H') : LstG K p c n m v H' := by
  obtain ⟨l, xs, e, h1, h2, h3, h4, h5⟩ := h
  exact ⟨l, xs, e, h1, h2, s _ _ h3, h4, fun x hx => (h5 x hx).same s⟩
theorem TupG.same {n m : Nat} {v : V} {H' : Hp} (h : TupG K p c n m v H) (s : Same H H') : TupG K p c n m v H' := by
  obtain ⟨a, xs, e, h3, h4, h5⟩ := h
  exact ⟨a, xs, e, (Ky.of s).sqT h3, h4, fun x hx => (h5 x hx).same s⟩
theorem TupG.good {n m k T : Nat} {v : V} (h : TupG K p c n m v H) (hP : Pur H p c T) (l : tw + m * (n + 2) ≤ k) : GoodA K p c k v H := by
  obtain ⟨a, xs, rfl, h3, h4, h5⟩ := h
  exact good_tup (hid_sqT hP h3) h5 (Nat.le_trans (Nat.add_le_add_left (Nat.mul_le_mul_right _ h4) tw) l)
theorem LstG.good {n m k : Nat} {v : V} (h : LstG K p c n m v H) (l : tw + m * (n + 2) ≤ k) : GoodA K p c k v H := by
  obtain ⟨a, xs, rfl, h1, h2, h3, h4, h5⟩ := h
  exact good_lst (SqL.of (by rw [hid_at h1 h2]; exact h3)) h5 (by rw [h4]; exact l)
theorem TupG.le {n n' m m' : Nat} {v : V} (h : TupG K p c n m v H) (l1 : n ≤ n') (l2 : m ≤ m') : TupG K p c n' m' v H := by
  obtain ⟨a, xs, rfl, h3, h4, h5⟩ := h
  exact ⟨a, xs, rfl, h3, by omega, fun x hx => Good.le (h5 x hx) l1⟩
theorem ye_lst {ta : TA} {n m T : Nat} (hP : Pur H p c T) (h : YA ta σ H (GoodAs K p c n m)) (l : m ≤ 1000) : YE (tLst ta) σ H (LstG K p c n m) := fun Q q => by
  refine h _ fun vs H1 s1 g1 => ⟨by rw [g1.1]; exact Nat.le_of_lt (small1000 l), fun t nt => ?_⟩
  obtain ⟨t1, t2⟩ := (hP.same s1).nep nt
  have s2 := same_upd nt (o := .lst vs)
  exact q _ _ (s1.trans s2) ⟨t, vs, rfl, t1, t2, upd_same, g1.1, fun x hx => (g1.2 x hx).same s2⟩
theorem ye_tup {ta : TA} {n m : Nat} (h : YA ta σ H (GoodAs K p c n m)) (l : m ≤ 1000) : YE (tTup ta) σ H (TupG K p c n m) := fun Q q => by
  refine h _ fun vs H1 s1 g1 => ⟨by rw [g1.1]; exact Nat.le_of_lt (small1000 l), fun t nt => ?_⟩
  have s2 := same_upd nt (o := .tup vs)
  exact q _ _ (s1.trans s2) ⟨t, vs, rfl, SqT.of upd_same, Nat.le_of_eq g1.1, fun x hx => (g1.2 x hx).same s2⟩
/-- an end of a slice -/
def YO (to : TO) (σ : L2.St) (H : Hp) : Prop := ∀ Q : Option Int → Hp → Prop, (∀ o H', Same H H' → Q o H') → to σ H Q
theorem yo_none : YO tNoPart σ H := fun Q q => q none H (Same.refl _)
theorem yo_some {te : TE} (h : YE te σ H fun v _ => ∃ i, v = .int i) : YO (tPart te) σ H := fun Q q => h _ fun v H' s ⟨i, e⟩ => ⟨i, e, q (some i) H' s⟩
theorem cut_mem {xs : List V} {lo hi : Option Int} {x : V} (h : x ∈ cutV xs lo hi) : x ∈ xs := by
  unfold cutV at h
  exact List.mem_of_mem_drop (List.mem_of_mem_take h)
theorem cut_len {xs : List V} {lo hi : Option Int} : (cutV xs lo hi).length ≤ xs.length := cutV_length xs lo hi
theorem ye_cut {te : TE} {tl th : TO} {n m : Nat} (h : YE te σ H (TupG K p c n m)) (h1 : ∀ H', Same H H' → YO tl σ H') (h2 : ∀ H', Same H H' → YO th σ H') : YE (tSl (rSlG K) te tl th) σ H (TupG K p c n m) := fun Q q => by
  refine h _ fun v H1 s1 g1 => h1 H1 s1 _ fun lo H2 s2 => h2 H2 (s1.trans s2) _ fun hi H3 s3 => ?_
  obtain ⟨a, xs, rfl, e3, e4, e5⟩ := g1.same (s2.trans s3)
  exact ⟨a, xs, rfl, e3, fun H4 t s4 st => q _ _ (((s1.trans s2).trans s3).trans s4) ⟨t, _, rfl, st, Nat.le_trans cut_len e4, fun x hx => (e5 x (cut_mem hx)).same s4⟩⟩
theorem ye_cat {ta tb : TE} {n m1 m2 : Nat} (h1 : YE ta σ H (TupG K p c n m1)) (h2 : ∀ H', Same H H' → YE tb σ H' (TupG K p c n m2)) (l : m1 + m2 ≤ 1000) : YE (tOp (rCatG K) ta tb) σ H (TupG K p c n (m1 + m2)) := fun Q q => by
  refine h1 _ fun v H1 s1 g1 => h2 H1 s1 _ fun u H2 s2 g2 => ?_
  obtain ⟨a, xs, rfl, e3, e4, e5⟩ := g1.same s2
  obtain ⟨b, ys, rfl, f3, f4, f5⟩ := g2
  refine ⟨a, b, xs, ys, rfl, rfl, e3, f3, Nat.le_of_lt (small1000 (by omega)), fun H4 t s4 st => q _ _ ((s1.trans s2).trans s4) ⟨t, _, rfl, st, by rw [List.length_append]; omega, fun x hx => ?_⟩⟩
  rcases List.mem_append.mp hx with hx | hx
  · exact (e5 x hx).same s4
  · exact (f5 x hx).same s4
theorem ye_catL {ta tb : TE} {n m1 m2 T : Nat} (hP : Pur H p c T) (h1 : YE ta σ H (LstG K p c n m1)) (h2 : ∀ H', Same H H' → YE tb σ H' (LstG K p c n m2)) (l : m1 + m2 ≤ 1000) : YE (tOp rCat ta tb) σ H (LstG K p c n (m1 + m2)) := fun Q q => by
  refine h1 _ fun v H1 s1 g1 => h2 H1 s1 _ fun u H2 s2 g2 => ?_
  obtain ⟨a, xs, rfl, e1, e2, e3, e4, e5⟩ := g1.same s2
  obtain ⟨b, ys, rfl, f1, f2, f3, f4, f5⟩ := g2
  refine ⟨a, b, xs, ys, rfl, rfl, e3, f3, Nat.le_of_lt (small1000 (by omega)), fun t nt => ?_⟩
  obtain ⟨t1, t2⟩ := (hP.same (s1.trans s2)).nep nt
  have s4 := same_upd nt (o := .lst (xs ++ ys))
  refine q _ _ ((s1.trans s2).trans s4) ⟨t, _, rfl, t1, t2, upd_same, by rw [List.length_append]; omega, fun x hx => ?_⟩
  rcases List.mem_append.mp hx with hx | hx
  · exact (e5 x hx).same s4
  · exact (f5 x hx).same s4
theorem mem_flat {α : Type} {xs : List α} {k : Nat} {x : α} (h : x ∈ (List.replicate k xs).flatten) : x ∈ xs := by
  obtain ⟨l, hl, hx⟩ := List.mem_flatten.mp h
  rw [(List.mem_replicate.mp hl).2] at hx
  exact hx
theorem len_flat {α : Type} {xs : List α} : ∀ k : Nat, ((List.replicate k xs).flatten).length = k * xs.length
  | 0 => by simp
  | k + 1 => by rw [List.replicate_succ, List.flatten_cons, List.length_append, len_flat k, Nat.succ_mul, Nat.add_comm]
theorem ye_rep {ta : TE} {n m k T : Nat} (hP : Pur H p c T) (h1 : YE ta σ H (LstG K p c n m)) (l : k * m ≤ 1000) (lk : k ≤ 1000) : YE (tOp rRep ta (tC (.int (k : Nat)))) σ H (LstG K p c n (k * m)) := fun Q q => by
  refine h1 _ fun v H1 s1 g1 => ?_
  obtain ⟨a, xs, rfl, e1, e2, e3, e4, e5⟩ := g1
  refine ⟨a, (k : Nat), xs, rfl, rfl, e3, by omega, by omega, by rw [Int.toNat_natCast, e4, Nat.mul_comm]; exact Nat.le_of_lt (small1000 l), fun t nt => ?_⟩
  obtain ⟨t1, t2⟩ := (hP.same s1).nep nt
  have s4 := same_upd nt (o := .lst (List.replicate ((k : Nat) : Int).toNat xs).flatten)
  exact q _ _ (s1.trans s4) ⟨t, _, rfl, t1, t2, upd_same, by rw [Int.toNat_natCast, len_flat, e4], fun x hx => (e5 x (mem_flat hx)).same s4⟩
/-- a tuple, not empty -/
theorem ye_repT {ta : TE} {n m k : Nat} (h1 : YE ta σ H fun v H' => TupG K p c n m v H' ∧ ∀ a, v = .ref a → ¬ SqT K H' a []) (k2 : 2 ≤ k) (lk : k ≤ 1000) (lm : m ≤ 1000) : YE (tOp (rRepT K) ta (tC (.int (k : Nat)))) σ H (TupG K p c n (k * m)) := fun Q q => by
  refine h1 _ fun v H1 s1 g1 => ?_
  obtain ⟨⟨a, xs, rfl, e3, e4, e5⟩, ne⟩ := g1
  refine ⟨a, (k : Nat), xs, rfl, rfl, e3, fun z => ne a rfl (by rw [← z]; exact e3), by omega, by omega, by omega, fun t nt => ?_⟩
  have s4 := same_upd nt (o := .tup (List.replicate ((k : Nat) : Int).toNat xs).flatten)
  exact q _ _ (s1.trans s4) ⟨t, _, rfl, SqT.of upd_same, by rw [Int.toNat_natCast, len_flat]; exact Nat.mul_le_mul_left _ e4, fun x hx => (e5 x (mem_flat hx)).same s4⟩
end
end Cv
set_option Elab.async false
set_option linter.all false
set_option maxRecDepth 100000
set_option maxHeartbeats 1000000
namespace Cv
open PySem PySem.Spec PyProof.Rows L2
/-! ### a plan as data -/
def sortD (s : Str × List Str) : PyData := .tuple [.str s.1, .tuple (s.2.map PyData.str)]
def planD (ss : List (Str × List Str)) : PyData := .tuple (ss.map sortD)
theorem word_of {z : Str} {m : Nat} (h1 : 1 ≤ z.length) (h2 : z.length ≤ m) (h3 : Lets z) : isWordD m (.str z) = true := by
  show (decide (1 ≤ z.length) && (decide (z.length ≤ m) && z.cps.toList.all isL)) = true
  rw [decide_eq_true h1, decide_eq_true h2, List.all_eq_true.mpr h3]
  rfl
theorem strOf_map (ws : List Str) : (ws.map PyData.str).map strOf = ws := by
  rw [List.map_map]
  exact List.map_id ws
theorem good_sort {s : Str × List Str} (h : GoodS s) : isSortD (sortD s) = true := by
  obtain ⟨h1, h2, h3, c1, c2, c3, c4⟩ := h
  show (isWordD 8 (.str s.1) && (decide (2 ≤ (s.2.map PyData.str).length) && (decide ((s.2.map PyData.str).length ≤ 6) && unlikeD (s.2.map PyData.str)))) = true
  rw [word_of h1 h2 h3, List.length_map, decide_eq_true c1, decide_eq_true c2]
  unfold unlikeD
  rw [strOf_map, decide_eq_true c3.1]
  have : (s.2.map PyData.str).all (isWordD 4) = true := by
    rw [List.all_map, List.all_eq_true]
    exact fun z hz => word_of (c4 z hz).1 (c4 z hz).2.1 (c4 z hz).2.2
  rw [this]
  rfl
theorem good_plan {ss : List (Str × List Str)} (h : GoodP ss) : wrongD (planD ss) = .none := by
  obtain ⟨h1, h2, h3, h4⟩ := h
  show wrongDs (ss.map sortD) = .none
  have e1 : firstK (ss.map sortD).length (notSort (ss.map sortD)) = none := firstK_none fun k hk => by
    unfold notSort
    rw [List.length_map] at hk
    rw [List.getD_eq_getElem?_getD, List.getElem?_map, List.getElem?_eq_getElem hk]
    show (!isSortD (sortD ss[k])) = false
    rw [good_sort (h4 _ (List.getElem_mem hk))]
    rfl
  have e2 : (ss.map sortD).map nameOf = ss.map (·.1) := by
    rw [List.map_map]
    rfl
  have e3 : firstK (ss.map sortD).length (twiceAt ((ss.map sortD).map nameOf)) = none := firstK_none fun k hk => by
    rw [e2]
    rw [List.length_map] at hk
    refine decide_eq_false fun m => ?_
    have hk' : k < (ss.map (·.1)).length := by
      rw [List.length_map]
      exact hk
    rw [List.getD_eq_getElem?_getD, List.getElem?_eq_getElem hk', Option.getD_some] at m
    obtain ⟨i, hi, e⟩ := List.mem_take_iff_getElem.mp m
    have hi2 : i < k ∧ i < (ss.map (·.1)).length := by omega
    exact List.pairwise_iff_getElem.mp h3 i k hi2.2 hk' hi2.1 e
  unfold wrongDs
  rw [e1, e3, if_pos (by rw [List.length_map]; exact ⟨h1, h2⟩)] <;> rfl
theorem sort_wt {s : Str × List Str} (h : GoodS s) : wt (sortD s) ≤ 800 ∧ pl (sortD s) = true := by
  obtain ⟨h1, h2, h3, c1, c2, c3, c4⟩ := h
  have w := wts_of (n := 42) (ds := s.2.map PyData.str) fun d hd => by
    obtain ⟨z, hz, rfl⟩ := List.mem_map.mp hd
    rw [wt]
    have := (c4 z hz).2.1
    omega
  rw [List.length_map] at w
  have w2 : s.2.length * (42 + 2) ≤ 6 * 44 := Nat.mul_le_mul_right _ c2
  refine ⟨?_, ?_⟩
  · unfold sortD
    simp only [wt, wts]
    omega
  · unfold sortD
    simp only [pl, pls]
    have a1 := lets_pl h3
    have a2 : pls (s.2.map PyData.str) = true := pls_of fun d hd => by
      obtain ⟨z, hz, rfl⟩ := List.mem_map.mp hd
      exact lets_pl (c4 z hz).2.2
    simp only [pl] at a1
    rw [a1, a2]
    rfl
theorem plan_wt {ss : List (Str × List Str)} (h : GoodP ss) : wt (planD ss) ≤ 4000 ∧ pl (planD ss) = true := by
  obtain ⟨h1, h2, h3, h4⟩ := h
  have w := wts_of (n := 800) (ds := ss.map sortD) fun d hd => by
    obtain ⟨s, hs, rfl⟩ := List.mem_map.mp hd
    exact (sort_wt (h4 s hs)).1
  rw [List.length_map] at w
  have w2 : ss.length * (800 + 2) ≤ 4 * 802 := Nat.mul_le_mul_right _ h2
  refine ⟨?_, ?_⟩
  · unfold planD
    rw [wt]
    omega
  · unfold planD
    rw [pl]
    exact pls_of fun d hd => by
      obtain ⟨s, hs, rfl⟩ := List.mem_map.mp hd
      exact (sort_wt (h4 s hs)).2
theorem strs_dp {K : PySem.W.Frag} {H : Hp} : ∀ zs : List Str, DpAll K H (zs.map V.str) (zs.map PyData.str)
  | [] => .nil
  | z :: r => .cons (.str z) (strs_dp r)
theorem strs_of {K : PySem.W.Frag} {H : Hp} : ∀ {cs : List Str} {us : List V}, DpAll K H us (cs.map PyData.str) → us = cs.map V.str
  | [], _, h => by cases h; rfl
  | c :: r, _, h => by
    cases h with
    | cons h1 h2 =>
      cases h1
      rw [strs_of h2]
      rfl
theorem sortL_dp {K : PySem.W.Frag} {H : Hp} {v : V} {s : Str × List Str} (h : SortL H v s) : Dp K H v (sortD s) := by
  obtain ⟨a, b, rfl, ha, hb⟩ := h
  exact .tup (SqT.of ha) (.cons (.str _) (.cons (.tup (SqT.of hb) (strs_dp _)) .nil))
theorem sorts_dp {K : PySem.W.Frag} {H : Hp} : ∀ {xs : List V} {ss : List (Str × List Str)}, Paired (SortL H) xs ss → DpAll K H xs (ss.map sortD)
  | _, _, .nil => .nil
  | _, _, .cons a t => .cons (sortL_dp a) (sorts_dp t)
/-- a sort's value -/
theorem sort_val {K : PySem.W.Frag} {H : Hp} {v : V} {s : Str × List Str} (h : Dp K H v (sortD s)) : ∃ a b, v = .ref a ∧ SqT K H a [.str s.1, .ref b] ∧ SqT K H b (s.2.map V.str) := by
  obtain ⟨a, ys, rfl, sqa, hys⟩ := dp_tup h
  obtain ⟨y1, y2, d1, d2, rfl, ed, hd1, hd2⟩ := two_of hys (dpAll_len hys)
  injection ed with ed1 ed2
  injection ed2 with ed2 _
  subst ed1 ed2
  cases hd1
  obtain ⟨b, us, rfl, sqb, hus⟩ := dp_tup hd2
  rw [strs_of hus] at sqb
  exact ⟨a, b, rfl, sqa, sqb⟩
/-! ### plain data is laid -/
mutual
theorem pl_lay : ∀ d : PyData, pl d = true → d.canLay0 = true
  | .none, _ => rfl
  | .bool _, _ => rfl
  | .int _, _ => rfl
  | .str z, h => by
    have h2 : (z.cps.toList.all fun ch => decide (ch < 1000)) = true := by simpa only [pl] using h
    simp only [PyData.canLay0, PyData.strOk]
    rw [← Array.all_toList, List.all_eq_true]
    intro ch hc
    have := of_decide_eq_true (List.all_eq_true.mp h2 ch hc)
    exact decide_eq_true (by omega)
  | .list ds, h => by
    simp only [PyData.canLay0]
    exact pls_lay ds (by simpa only [pl] using h)
  | .tuple ds, h => by
    simp only [PyData.canLay0]
    exact pls_lay ds (by simpa only [pl] using h)
  | .dict _, h => absurd (show false = true by simpa only [pl] using h) Bool.false_ne_true
theorem pls_lay : ∀ ds : List PyData, pls ds = true → PyData.canLayAll0 ds = true
  | [], _ => rfl
  | d :: r, h => by
    have h' : pl d = true ∧ pls r = true := by simpa [pls] using h
    simp only [PyData.canLayAll0, pl_lay d h'.1, pls_lay r h'.2, Bool.and_self]
end
/-! ### x in a tuple of texts, x any data -/
def inCodes (ws : List Str) : PyData → Bool
  | .str z => decide (z ∈ ws)
  | _ => false
theorem in_codes (ws : List Str) (d : PyData) : ((ws.map PyData.str).any fun y => PyData.eqv y d) = inCodes ws d := by
  rw [List.any_map]
  cases d with
  | str z =>
    rw [Bool.eq_iff_iff, List.any_eq_true]
    show _ ↔ decide (z ∈ ws) = true
    rw [decide_eq_true_iff]
    constructor
    · rintro ⟨y, hy, e⟩
      have e2 : (y == z) = true := by simpa [PyData.eqv] using e
      rw [← eq_of_beq e2]
      exact hy
    · intro h
      exact ⟨z, h, by simp [PyData.eqv]⟩
  | _ =>
    show _ = false
    rw [List.any_eq_false]
    intro y _
    simp [PyData.eqv]
theorem strs_depth : ∀ ws : List Str, PyData.depthAll (ws.map PyData.str) ≤ 1
  | [] => by simp [PyData.depthAll]
  | z :: r => by
    have := strs_depth r
    simp only [List.map_cons, PyData.depthAll, PyData.depth]
    omega
def rInT (K : PySem.W.Frag) (neg : Bool) : R2 := fun x y H Q => ∃ (d : PyData) (ws : List Str) (a : Addr), Dp K H x d ∧ y = .ref a ∧ SqT K H a (ws.map V.str) ∧ pl d = true ∧ (∀ z ∈ ws, Lets z) ∧ Q (.bl (if neg then !inCodes ws d else inCodes ws d)) H
section
variable {X : Cx}
theorem op_notInT (hu : X.A.units + 65 < cLine) : OpR X (compareOp .NotIn) (rInT X.K true) := by
  intro pins s σ H x y v u Q I rx ry h
  obtain ⟨d, ws, a, hd, rfl, sq, hp, hl, q⟩ := h
  obtain ⟨as, r1⟩ := Dp.reads I d x v hd rx
  obtain ⟨bs, r2⟩ := Dp.reads I (.tuple (ws.map PyData.str)) (.ref a) u (.tup sq (strs_dp ws)) ry
  have hs := strs_depth ws
  refine SeqAt.notIn_tuple_reads r2 r1 (pls_lay _ (pls_of fun e he => ?_)) (pl_lay d hp) (by omega) ⟨.bl _, H, I, rfl, ?_⟩
  · obtain ⟨z, hz, rfl⟩ := List.mem_map.mp he
    exact lets_pl (hl z hz)
  · rw [in_codes]
    exact q
end
theorem notF2 {b : Bool} (h : ¬ (if true = true then !b else b) = true) : b = true := by
  cases b
  · exact absurd rfl h
  · rfl
/-! ### the first that is no code -/
def badCode (ss : List (Str × List Str)) (ds : List PyData) (k : Nat) : Bool := match ds.getD k .none with
  | .none => false
  | d => !inCodes (ss.getD k ("", [])).2 d
def optV : Option Nat → V
  | none => .non
  | some k => .int k
abbrev sFn : Stmt := topS 28
abbrev nFn : List Str := ["plan", "things", "k", "name", "codes"]
theorem scFn : FnScope nFn ["plan", "things"] (defScope sFn) := ⟨rfl, rfl, rfl, by decide +kernel, rfl, by decide +kernel, by decide +kernel⟩
theorem _root_.L2.Room.u65 {k : Nat} {A : Around} (r : Room k A) : A.units + 65 < cLine := by
  have := r.un
  omega
def spFn (K : PySem.W.Frag) : Sp := fun vs H Q _ => ∃ (pl_ tv : V) (ss : List (Str × List Str)) (ds : List PyData), vs = [pl_, tv] ∧ Dp K H pl_ (planD ss) ∧ GoodP ss ∧ Dp K H tv (.tuple ds) ∧ ss.length ≤ ds.length ∧ pls ds = true ∧ ∀ H', Same H H' → Q (optV (firstK ss.length (badCode ss ds))) H'
section
variable {P : Program} {w : World} {K : PySem.W.Frag} {mg : Str → Option Value} {base : Heap}
theorem ok_fn {f : Addr} {fd : FuncData} {k : Nat} (F : Fun K "first_no_code" "first_no_code" sFn f fd) (me : mg "enumerate" = none) : FnOk P w K mg base CX0 (k + 1) f fd ["plan", "things"] (spFn K) := by
  refine F.ok scFn (fun vs H Q E h => ?_) (fun cdv A outer s H vs Q E hr h => ?_)
  · obtain ⟨pl_, tv, ss, ds, rfl, _⟩ := h
    rfl
  · obtain ⟨pl_, tv, ss, ds, rfl, hp, gp, ht, hl, hpl, q⟩ := h
    refine ⟨_, pss_cons (ps_for PassesOwn.never rfl (Ex.pi_enumT (by rfl) me (pa_cons (pv 0) pa_nil)) (pg_tup rfl (pgs_cons (pg_name (i := 2) scFn.nd rfl (.inl rfl)) (pgs_cons (pg_tup rfl (pgs_cons (pg_name (i := 3) scFn.nd rfl (.inl rfl)) (pgs_cons (pg_name (i := 4) scFn.nd rfl (.inl rfl)) pgs_nil))) pgs_nil)))
        (pss_one (ps_if (PW.pt (pw_and (pt_cmpR op_notN (pe_ix ix_tup (pv 1) (pv 2) (fun _ _ => rfl)) pe_non rfl) (pw_and1 (pt_cmpR (op_notInT hr.u65) (pe_ix ix_tup (pv 1) (pv 2) (fun _ _ => rfl)) (pv 4) rfl)))) (pss_one (ps_ret (pv 2))) pss_nil)))
      (pss_one (ps_ret pe_non)), ?_⟩
    obtain ⟨t, xs, rfl, sqp, hxs⟩ := dp_tup hp
    obtain ⟨u, ys, rfl, sqt, hys⟩ := dp_tup ht
    have lx : xs.length = ss.length := by
      have := dpAll_len hxs
      rw [List.length_map] at this
      exact this
    have ly := dpAll_len hys
    refine ⟨.ref t, rfl, t, xs, rfl, sqp, ?_⟩
    refine Ex.for_enumT (K := K) (a := t) (xs := xs) (fun i σ H' => ∃ y2 y3 y4, σ = [some (.ref t), some (.ref u), y2, y3, y4] ∧ Same H H' ∧ ∀ j, j < i → badCode ss ds j = false) ⟨none, none, none, rfl, Same.refl _, fun j hj => absurd hj (Nat.not_lt_zero j)⟩
      (fun i σ H' _ h => ?_) (fun i x σ H' T hx h hT => ?_) (fun σ H' h => ?_)
    · obtain ⟨_, _, _, _, s1, _⟩ := h
      exact (Ky.of s1).sqT sqp
    · obtain ⟨y2, y3, y4, rfl, s1, all⟩ := h
      have s2 : Same H (upd H' T (.tup [.int (i : Nat), x])) := s1.trans (same_upd hT)
      obtain ⟨dx, ex, hdx⟩ := dpAll_get ((Ky.of s2).dpAll _ xs hxs) hx
      have hi : i < ss.length := by
        have := (List.getElem?_eq_some_iff.mp hx).1
        omega
      rw [List.getElem?_map, List.getElem?_eq_getElem hi] at ex
      have ex2 : sortD ss[i] = dx := Option.some.inj ex
      rw [← ex2] at hdx
      obtain ⟨a, b, rfl, sqa, sqb⟩ := sort_val hdx
      have gi := gp.2.2.2 _ (List.getElem_mem hi)
      obtain ⟨yv, hyi⟩ : ∃ yv, ys[i]? = some yv := ⟨ys[i]'(by omega), List.getElem?_eq_getElem (by omega)⟩
      obtain ⟨dy, ey, hdy⟩ := dpAll_get ((Ky.of s2).dpAll ds ys hys) hyi
      have gy : ds.getD i .none = dy := by
        rw [List.getD_eq_getElem?_getD, ey]
        rfl
      have gs : ss.getD i ("", []) = ss[i] := by
        rw [List.getD_eq_getElem?_getD, List.getElem?_eq_getElem hi]
        rfl
      have sqt2 := (Ky.of s2).sqT sqt
      have ok : dy = .none ∨ inCodes ss[i].2 dy = true → badCode ss ds i = false := fun h => by
        unfold badCode
        rw [gy, gs]
        cases dy with
        | none => rfl
        | _ =>
          rcases h with h | h
          · cases h
          · show (!inCodes _ _) = false
            rw [h]
            rfl
      refine ⟨T, _, rfl, SqT.of upd_same, rfl, _, _, rfl, _, _, rfl, a, _, rfl, sqa, rfl, _, _, rfl, _, _, rfl, rfl, rfl, ?_⟩
      refine ⟨.ref u, rfl, .int (i : Nat), rfl, u, ys, _, _, rfl, rfl, sqt2, atI_nat hyi, rfl, _, rfl, ite2 (fun e => ?_) (fun e => ?_)⟩
      · refine ⟨.ref u, rfl, .int (i : Nat), rfl, u, ys, _, _, rfl, rfl, sqt2, atI_nat hyi, .ref b, rfl, dy, ss[i].2, b, hdy, rfl, sqb, pl_mem hpl (List.mem_of_getElem? ey), fun z hz => (gi.2.2.2.2.2.2 z hz).2.2, _, rfl, ite2 (fun e2 => ?_) (fun e2 => ?_)⟩
        · have bad : badCode ss ds i = true := by
            unfold badCode
            rw [gy, gs]
            cases dy with
            | none =>
              cases hdy
              exact absurd rfl (ndT e)
            | _ => exact e2
          refine ⟨_, rfl, ?_⟩
          have q2 := q _ s2
          rw [firstK_some hi bad all] at q2
          exact q2
        · refine ⟨_, _, _, rfl, s2, fun j hj => ?_⟩
          by_cases z : j = i
          · rw [z]
            exact ok (.inr (notF2 e2))
          · exact all j (by omega)
      · refine iteF ⟨_, _, _, rfl, s2, fun j hj => ?_⟩
        by_cases z : j = i
        · rw [z]
          refine ok (.inl ?_)
          have e3 : yv = V.non := ndF e
          rw [e3] at hdy
          cases hdy
          rfl
        · exact all j (by omega)
    · obtain ⟨y2, y3, y4, rfl, s1, all⟩ := h
      have q2 := q _ s1
      rw [firstK_none fun j hj => all j (by omega)] at q2
      exact q2
end
end Cv
set_option Elab.async false
set_option linter.all false
set_option maxRecDepth 100000
set_option maxHeartbeats 1000000
namespace Cv
open PySem PySem.Spec PyProof.Rows L2
/-! ### whole numbers -/
def isI : PyData → Bool
  | .int _ => true
  | .bool _ => true
  | _ => false
def isB : PyData → Bool
  | .bool _ => true
  | _ => false
def wholeD : PyData → Bool
  | .int _ => true
  | _ => false
theorem kit_i : ∀ d : PyData, kitB (tyD d) "int" = some (isI d)
  | .none => show kitB "NoneType" "int" = some false by decide +kernel
  | .bool _ => show kitB "bool" "int" = some true by decide +kernel
  | .int _ => show kitB "int" "int" = some true by decide +kernel
  | .str _ => show kitB "str" "int" = some false by decide +kernel
  | .list _ => show kitB "list" "int" = some false by decide +kernel
  | .tuple _ => show kitB "tuple" "int" = some false by decide +kernel
  | .dict _ => show kitB "dict" "int" = some false by decide +kernel
theorem kit_b : ∀ d : PyData, kitB (tyD d) "bool" = some (isB d)
  | .none => show kitB "NoneType" "bool" = some false by decide +kernel
  | .bool _ => show kitB "bool" "bool" = some true by decide +kernel
  | .int _ => show kitB "int" "bool" = some false by decide +kernel
  | .str _ => show kitB "str" "bool" = some false by decide +kernel
  | .list _ => show kitB "list" "bool" = some false by decide +kernel
  | .tuple _ => show kitB "tuple" "bool" = some false by decide +kernel
  | .dict _ => show kitB "dict" "bool" = some false by decide +kernel
def isLs : PyData → Bool
  | .list _ => true
  | _ => false
theorem kit_l : ∀ d : PyData, kitB (tyD d) "list" = some (isLs d)
  | .none => show kitB "NoneType" "list" = some false by decide +kernel
  | .bool _ => show kitB "bool" "list" = some false by decide +kernel
  | .int _ => show kitB "int" "list" = some false by decide +kernel
  | .str _ => show kitB "str" "list" = some false by decide +kernel
  | .list _ => show kitB "list" "list" = some true by decide +kernel
  | .tuple _ => show kitB "tuple" "list" = some false by decide +kernel
  | .dict _ => show kitB "dict" "list" = some false by decide +kernel
abbrev sWh : Stmt := topS 8
theorem scWh : FnScope ["thing"] ["thing"] (defScope sWh) := ⟨rfl, rfl, rfl, by decide +kernel, rfl, by decide +kernel, by decide +kernel⟩
def spWh (K : PySem.W.Frag) : Sp := fun vs H Q _ => ∃ (v : V) (d : PyData), vs = [v] ∧ Dp K H v d ∧ Q (.bl (wholeD d)) H
def withinD (lo hi : Int) : PyData → Bool
  | .int i => decide (lo ≤ i) && decide (i ≤ hi)
  | _ => false
abbrev sWw : Stmt := topS 9
theorem scWw : FnScope ["thing", "least", "most"] ["thing", "least", "most"] (defScope sWw) := ⟨rfl, rfl, rfl, by decide +kernel, rfl, by decide +kernel, by decide +kernel⟩
def spWw (K : PySem.W.Frag) : Sp := fun vs H Q _ => ∃ (v : V) (d : PyData) (lo hi : Int), vs = [v, .int lo, .int hi] ∧ Dp K H v d ∧ Q (.bl (withinD lo hi d)) H
section
variable {P : Program} {w : World} {K : PySem.W.Frag} {mg : Str → Option Value} {base : Heap}
theorem ok_wh {f : Addr} {fd : FuncData} {k : Nat} (F : Fun K "is_whole" "is_whole" sWh f fd) (mi : mg "isinstance" = none) (mn : mg "int" = none) (mb : mg "bool" = none) : FnOk P w K mg base CX0 (k + 1) f fd ["thing"] (spWh K) := by
  refine F.ok scWh (fun vs H Q E h => ?_) (fun cdv A outer s H vs Q E hr h => ?_)
  · obtain ⟨v, d, rfl, _⟩ := h
    rfl
  · obtain ⟨v, d, rfl, hd, q⟩ := h
    refine ⟨_, pss_one (ps_ret (pe_and (pe_callB call_isi (by rfl) mi PyProof.Rows.boot_isinstance (pa_cons (pv 0) (pa_cons (pe_bltn (v := .ty "int") (by rfl) mn PyProof.Rows.Boot.«int» rfl) pa_nil)))
      (pe_one (pe_not (pe_callB call_isi (by rfl) mi PyProof.Rows.boot_isinstance (pa_cons (pv 0) (pa_cons (pe_bltn (v := .ty "bool") (by rfl) mb PyProof.Rows.Boot.«bool» rfl) pa_nil))))))), ?_⟩
    refine ⟨v, rfl, v, _, _, _, _, rfl, .ty _, ty_dp hd, kit_ty (kit_i d), _, rfl, ite2 (fun e => ?_) (fun e => ?_)⟩
    · refine ⟨v, rfl, v, _, _, _, _, rfl, .ty _, ty_dp hd, kit_ty (kit_b d), _, rfl, ?_⟩
      cases d with
      | int i => exact q
      | bool b => exact q
      | _ => cases e
    · cases d with
      | int i => exact absurd rfl e
      | bool b => exact absurd rfl e
      | _ => exact q
theorem ok_ww {f fW : Addr} {fd fdW : FuncData} {k : Nat} (F : Fun K "is_whole_within" "is_whole_within" sWw f fd) (W : At P w K mg base CX0 k "is_whole" fW fdW ["thing"] (spWh K)) : FnOk P w K mg base CX0 (k + 1) f fd ["thing", "least", "most"] (spWw K) := by
  refine F.ok scWw (fun vs H Q E h => ?_) (fun cdv A outer s H vs Q E hr h => ?_)
  · obtain ⟨v, d, lo, hi, rfl, _⟩ := h
    rfl
  · obtain ⟨v, d, lo, hi, rfl, hd, q⟩ := h
    refine ⟨_, pss_one (ps_ret (pe_and (pe_call W.ok hr (by rfl) W.g W.kp W.b .nil pass0 (pa_cons (pv 0) pa_nil)) (pe_one (pe_chain op_le op_le (pv 1) (pv 0) (pv 2))))), ?_⟩
    refine ⟨v, rfl, v, d, rfl, hd, _, rfl, ite2 (fun e => ?_) (fun e => ?_)⟩
    · cases d with
      | int i =>
        cases hd
        have q' : Q (.bl (decide (lo ≤ i) && decide (i ≤ hi))) H := q
        refine ⟨.int lo, rfl, .int i, rfl, _, _, rfl, rfl, _, rfl, ite2 (fun e2 => ?_) (fun e2 => ?_)⟩
        · rw [e2, Bool.true_and] at q'
          exact ⟨.int hi, rfl, _, _, rfl, rfl, q'⟩
        · rw [Bool.eq_false_iff.mpr e2, Bool.false_and] at q'
          exact q'
      | _ => cases e
    · cases d with
      | int i => exact absurd rfl e
      | _ => exact q
end
end Cv
set_option Elab.async false
set_option linter.all false
set_option maxRecDepth 100000
set_option maxHeartbeats 1000000
namespace Cv
open PySem PySem.Spec PyProof.Rows L2
theorem passF {X : Cx} : Passes (CX X.prog X.w) X (fun _ _ _ => False) := fun _ _ _ _ _ _ _ c => by
  obtain ⟨_, _, _, _, _, _, _, _, _, _, _, _, z⟩ := c
  exact z.elim
/-! ### what is wrong with a record -/
def recWrong (ss : List (Str × List Str)) : PyData → PyData
  | .tuple ds => if ds.length = ss.length + 1 then
      (match firstK ss.length (badCode ss ds) with
      | some k => .tuple [.str "code", .int k]
      | none => if withinD 0 1000000 (ds.getD ss.length .none) = true then .none else .tuple [.str "measure"]) else .tuple [.str "record"]
  | _ => .tuple [.str "record"]
def isNon : PyData → Bool
  | .none => true
  | _ => false
theorem non_v {K : PySem.W.Frag} {H : Hp} {r : V} {d : PyData} (h : Dp K H r d) : decide (r = V.non) = isNon d := by
  cases h <;> first | rfl | exact decide_eq_false (fun z => nomatch z)
theorem isNon_iff {d : PyData} : isNon d = true ↔ d = .none := by
  cases d <;> simp [isNon]
theorem recWrong_tup (ss : List (Str × List Str)) (d : PyData) (h : isTof ((ss.length : Int) + 1) d = false) : recWrong ss d = .tuple [.str "record"] := by
  cases d with
  | tuple ds =>
    have e : decide ((ds.length : Int) = (ss.length : Int) + 1) = false := h
    have e2 := of_decide_eq_false e
    show (if ds.length = ss.length + 1 then _ else _) = _
    rw [if_neg (by omega)]
  | _ => rfl
abbrev sWr : Stmt := topS 29
abbrev nWr : List Str := ["plan", "thing", "k"]
theorem scWr : FnScope nWr ["plan", "thing"] (defScope sWr) := ⟨rfl, rfl, rfl, by decide +kernel, rfl, by decide +kernel, by decide +kernel⟩
def spWr (K : PySem.W.Frag) : Sp := fun vs H Q _ => ∃ (pn tv : V) (ss : List (Str × List Str)) (d : PyData), vs = [pn, tv] ∧ Dp K H pn (planD ss) ∧ GoodP ss ∧ Dp K H tv d ∧ pl d = true ∧ ∀ H' r, Same H H' → Dp K H' r (recWrong ss d) → Q r H'
abbrev sIr : Stmt := topS 30
theorem scIr : FnScope ["plan", "thing"] ["plan", "thing"] (defScope sIr) := ⟨rfl, rfl, rfl, by decide +kernel, rfl, by decide +kernel, by decide +kernel⟩
def spIr (K : PySem.W.Frag) : Sp := fun vs H Q _ => ∃ (pn tv : V) (ss : List (Str × List Str)) (d : PyData), vs = [pn, tv] ∧ Dp K H pn (planD ss) ∧ GoodP ss ∧ Dp K H tv d ∧ pl d = true ∧ ∀ H', Same H H' → Q (.bl (isNon (recWrong ss d))) H'
/-! ### what is wrong with a book -/
def badRec (ss : List (Str × List Str)) (ds : List PyData) (i : Nat) : Bool := !isNon (recWrong ss (ds.getD i .none))
def bookWrong (ss : List (Str × List Str)) : PyData → PyData
  | .list ds => if ds.length ≤ 60 then
      (match firstK ds.length (badRec ss ds) with
      | some i => .tuple [.str "record", .int i, recWrong ss (ds.getD i .none)]
      | none => .none) else .tuple [.str "book"]
  | _ => .tuple [.str "book"]
abbrev sWb : Stmt := topS 31
abbrev nWb : List Str := ["plan", "thing", "i", "record", "wrong"]
theorem scWb : FnScope nWb ["plan", "thing"] (defScope sWb) := ⟨rfl, rfl, rfl, by decide +kernel, rfl, by decide +kernel, by decide +kernel⟩
def spWb (K : PySem.W.Frag) : Sp := fun vs H Q _ => ∃ (pn tv : V) (ss : List (Str × List Str)) (d : PyData), vs = [pn, tv] ∧ Dp K H pn (planD ss) ∧ GoodP ss ∧ Dp K H tv d ∧ pl d = true ∧ ∀ H' r, Same H H' → Dp K H' r (bookWrong ss d) → Q r H'
theorem dp_lst {K : PySem.W.Frag} {H : Hp} {v : V} {ds : List PyData} (h : Dp K H v (.list ds)) : ∃ a xs, v = .ref a ∧ SqL K H a xs ∧ DpAll K H xs ds := by
  cases h with
  | lst a b => exact ⟨_, _, rfl, a, b⟩
theorem lst_of {d : PyData} (h : isLs d = true) : ∃ ds, d = .list ds := by
  cases d with
  | list ds => exact ⟨ds, rfl⟩
  | _ => cases h
section
variable {P : Program} {w : World} {K : PySem.W.Frag} {mg : Str → Option Value} {base : Heap}
theorem ok_wr {f fT fN fW : Addr} {fd fdT fdN fdW : FuncData} {k : Nat} {t6 : Tok} (F : Fun K "wrong_in_record" "wrong_in_record" sWr f fd) (Tf : At P w K mg base CX0 k "is_tuple_of" fT fdT ["thing", "many"] (spTf K)) (Fn : At P w K mg base CX0 k "first_no_code" fN fdN ["plan", "things"] (spFn K)) (Ww : At P w K mg base CX0 k "is_whole_within" fW fdW ["thing", "least", "most"] (spWw K))
    (ml : mg "len" = none) (g6 : mg "MOST_MEASURE" = some (.int 1000000 t6)) : FnOk P w K mg base CX0 (k + 1) f fd ["plan", "thing"] (spWr K) := by
  refine F.ok scWr (fun vs H Q E h => ?_) (fun cdv A outer s H vs Q E hr h => ?_)
  · obtain ⟨pn, tv, ss, d, rfl, _⟩ := h
    rfl
  · obtain ⟨pn, tv, ss, d, rfl, hp, gp, hd, hpl, q⟩ := h
    refine ⟨_, pss_cons (ps_if (pt_not (pt_val (pe_call Tf.ok hr (by rfl) Tf.g Tf.kp Tf.b .nil pass0 (pa_cons (pv 1) (pa_cons (pe_op op_add (pe_callB call_len_seq (by rfl) ml PySem.boot_len (pa_cons (pv 0) pa_nil)) pe_int) pa_nil))))) (pss_one (ps_ret (pe_tup (pa_cons pe_str pa_nil)))) pss_nil)
      (pss_cons (ps_set (i := 2) scWr.nd rfl (.inl rfl) (pe_call Fn.ok hr (by rfl) Fn.g Fn.kp Fn.b .nil pass0 (pa_cons (pv 0) (pa_cons (pv 1) pa_nil))))
      (pss_cons (ps_if (pt_cmpR op_notN (pv 2) pe_non rfl) (pss_one (ps_ret (pe_tup (pa_cons pe_str (pa_cons (pv 2) pa_nil))))) pss_nil)
      (pss_cons (ps_if (pt_not (pt_val (pe_call Ww.ok hr (by rfl) Ww.g Ww.kp Ww.b .nil pass0 (pa_cons (pe_ix ix_tup (pv 1) (pe_un un_neg pe_int) (fun _ _ => rfl)) (pa_cons pe_int (pa_cons (pe_glob (v := .int 1000000) (by rfl) g6 ⟨_, rfl⟩) pa_nil)))))) (pss_one (ps_ret (pe_tup (pa_cons pe_str pa_nil)))) pss_nil)
      (pss_one (ps_ret pe_non))))), ?_⟩
    have one : ∀ {H'} (z : Str), Same H H' → recWrong ss d = .tuple [.str z] → 1 ≤ sizeLine ∧ ∀ t, H' t = none → Q (.ref t) (upd H' t (.tup [.str z])) := fun {H'} z x e => by
      refine ⟨by decide, fun t nt => q _ _ (x.trans (same_upd nt)) ?_⟩
      rw [e]
      exact .tup (SqT.of upd_same) (.cons (.str _) .nil)
    obtain ⟨t, xs, rfl, sqp, hxs⟩ := dp_tup hp
    have lx : xs.length = ss.length := by
      have := dpAll_len hxs
      rw [List.length_map] at this
      exact this
    refine ⟨tv, rfl, .ref t, rfl, t, xs, rfl, .inr sqp, _, _, rfl, rfl, tv, _, d, rfl, hd, _, rfl, ?_⟩
    rw [lx]
    refine ite2 (fun e => one "record" (Same.refl _) (recWrong_tup ss d (by simpa using e))) (fun e => ?_)
    have e2 : isTof ((ss.length : Int) + 1) d = true := by simpa using e
    have e0 : isT d = true := by
      cases d with
      | tuple ds => rfl
      | _ => cases e2
    obtain ⟨ds, rfl⟩ := tup_of e0
    have ld : ds.length = ss.length + 1 := by
      have := of_decide_eq_true (show decide ((ds.length : Int) = (ss.length : Int) + 1) = true from e2)
      omega
    have hpls : pls ds = true := by simpa only [pl] using hpl
    have rw0 : recWrong ss (.tuple ds) = (match firstK ss.length (badCode ss ds) with
      | some k => .tuple [.str "code", .int k]
      | none => if withinD 0 1000000 (ds.getD ss.length .none) = true then .none else .tuple [.str "measure"]) := by
      show (if ds.length = ss.length + 1 then _ else _) = _
      rw [if_pos ld]
    refine ⟨.ref t, rfl, tv, rfl, .ref t, tv, ss, ds, rfl, hp, gp, hd, by omega, hpls, fun H1 s1 => ?_⟩
    cases hf : firstK ss.length (badCode ss ds) with
    | some k0 =>
      rw [hf] at rw0
      refine ⟨.int (k0 : Nat), rfl, rfl, _, rfl, ite2 (fun _ => ?_) (fun z => absurd (ndF z) (fun z => nomatch z))⟩
      refine ⟨_, rfl, (by show 2 ≤ sizeLine; decide), fun p np => q _ _ (s1.trans (same_upd np)) ?_⟩
      rw [rw0]
      exact .tup (SqT.of upd_same) (.cons (.str _) (.cons (.int _) .nil))
    | none =>
      rw [hf] at rw0
      refine ⟨.non, rfl, rfl, _, rfl, ite2 (fun z => absurd rfl (ndT z)) (fun _ => ?_)⟩
      obtain ⟨u, ys, rfl, sqt, hys⟩ := dp_tup hd
      have ly := dpAll_len hys
      have sqt1 := (Ky.of s1).sqT sqt
      obtain ⟨yv, hyi⟩ : ∃ yv, ys[ss.length]? = some yv := ⟨ys[ss.length]'(by omega), List.getElem?_eq_getElem (by omega)⟩
      obtain ⟨dy, ey, hdy⟩ := dpAll_get ((Ky.of s1).dpAll ds ys hys) hyi
      have gy : ds.getD ss.length .none = dy := by
        rw [List.getD_eq_getElem?_getD, ey]
        rfl
      rw [gy] at rw0
      have at_ : atI ys (-1) = some yv := by
        unfold atI ixN
        rw [if_neg (by decide), if_pos (by omega)]
        show ys[(-1 + (ys.length : Int)).toNat]? = _
        rw [show (-1 + (ys.length : Int)).toNat = ss.length by omega]
        exact hyi
      refine ⟨.ref u, rfl, 1, rfl, u, ys, _, yv, rfl, rfl, sqt1, at_, yv, dy, 0, 1000000, rfl, hdy, _, rfl, ?_⟩
      cases hm : withinD 0 1000000 dy with
      | true =>
        rw [hm] at rw0
        refine ite2 (fun z => absurd z (by decide)) (fun _ => q _ _ s1 ?_)
        rw [rw0, if_pos rfl]
        exact .non
      | false =>
        rw [hm] at rw0
        refine ite2 (fun _ => one "measure" s1 ?_) (fun z => absurd rfl z)
        rw [rw0, if_neg Bool.false_ne_true]
theorem ok_ir {f fR : Addr} {fd fdR : FuncData} {k : Nat} (F : Fun K "is_record" "is_record" sIr f fd) (R : At P w K mg base CX0 k "wrong_in_record" fR fdR ["plan", "thing"] (spWr K)) : FnOk P w K mg base CX0 (k + 1) f fd ["plan", "thing"] (spIr K) := by
  refine F.ok scIr (fun vs H Q E h => ?_) (fun cdv A outer s H vs Q E hr h => ?_)
  · obtain ⟨pn, tv, ss, d, rfl, _⟩ := h
    rfl
  · obtain ⟨pn, tv, ss, d, rfl, hp, gp, hd, hpl, q⟩ := h
    refine ⟨_, pss_one (ps_ret (pe_cmpR op_isN (pe_call R.ok hr (by rfl) R.g R.kp R.b .nil pass0 (pa_cons (pv 0) (pa_cons (pv 1) pa_nil))) pe_non rfl)), ?_⟩
    refine ⟨pn, rfl, tv, rfl, pn, tv, ss, d, rfl, hp, gp, hd, hpl, fun H1 r s1 d1 => ⟨rfl, ?_⟩⟩
    rw [non_v d1]
    exact q _ s1
theorem ok_wb {f fR : Addr} {fd fdR : FuncData} {k : Nat} {t6 : Tok} (F : Fun K "wrong_in_book" "wrong_in_book" sWb f fd) (R : At P w K mg base CX0 k "wrong_in_record" fR fdR ["plan", "thing"] (spWr K)) (ml : mg "len" = none) (mi : mg "isinstance" = none) (mls : mg "list" = none) (me : mg "enumerate" = none) (g60 : mg "MOST_RECORDS" = some (.int 60 t6)) : FnOk P w K mg base CX0 (k + 1) f fd ["plan", "thing"] (spWb K) := by
  refine F.ok scWb (fun vs H Q E h => ?_) (fun cdv A outer s H vs Q E hr h => ?_)
  · obtain ⟨pn, tv, ss, d, rfl, _⟩ := h
    rfl
  · obtain ⟨pn, tv, ss, d, rfl, hp, gp, hd, hpl, q⟩ := h
    refine ⟨_, pss_cons (ps_if (PW.pt (pw_or (pt_not (pt_val (pe_callB call_isi (by rfl) mi PyProof.Rows.boot_isinstance (pa_cons (pv 1) (pa_cons (pe_bltn (v := .ty "list") (by rfl) mls PyProof.Rows.Boot.«list» rfl) pa_nil)))))
        (pw_or1 (pt_cmpR op_gt (pe_callB call_len_seq (by rfl) ml PySem.boot_len (pa_cons (pv 1) pa_nil)) (pe_glob (v := .int 60) (by rfl) g60 ⟨_, rfl⟩) (nomark _))))) (pss_one (ps_ret (pe_tup (pa_cons pe_str pa_nil)))) pss_nil)
      (pss_cons (ps_for PassesOwn.never rfl (pi_enum (by rfl) me (pa_cons (pv 1) pa_nil)) (pg_tup rfl (pgs_cons (pg_name (i := 2) scWb.nd rfl (.inl rfl)) (pgs_cons (pg_name (i := 3) scWb.nd rfl (.inl rfl)) pgs_nil)))
        (pss_cons (ps_set (i := 4) scWb.nd rfl (.inl rfl) (pe_call R.ok hr (by rfl) R.g R.kp R.b .nil pass0 (pa_cons (pv 0) (pa_cons (pv 3) pa_nil))))
        (pss_one (ps_if (pt_cmpR op_notN (pv 4) pe_non rfl) (pss_one (ps_ret (pe_tup (pa_cons pe_str (pa_cons (pv 2) (pa_cons (pv 4) pa_nil)))))) pss_nil))))
      (pss_one (ps_ret pe_non))), ?_⟩
    have one : bookWrong ss d = .tuple [.str "book"] → 1 ≤ sizeLine ∧ ∀ t, H t = none → Q (.ref t) (upd H t (.tup [.str "book"])) := fun e => by
      refine ⟨by decide, fun t nt => q _ _ (same_upd nt) ?_⟩
      rw [e]
      exact .tup (SqT.of upd_same) (.cons (.str _) .nil)
    refine ⟨tv, rfl, tv, _, _, _, _, rfl, .ty _, ty_dp hd, kit_ty (kit_l d), _, rfl, ite2 (fun e => iteT (one ?_)) (fun e => ?_)⟩
    · have e2 : isLs d = false := by simpa using e
      cases d with
      | list ds => cases e2
      | _ => rfl
    obtain ⟨ds, rfl⟩ := lst_of (d := d) (by simpa using e)
    obtain ⟨u, ys, rfl, sqt, hys⟩ := dp_lst hd
    have ly := dpAll_len hys
    have hpls : pls ds = true := by simpa only [pl] using hpl
    refine ⟨.ref u, rfl, u, ys, rfl, .inl sqt, _, _, rfl, rfl, _, rfl, ite2 (fun e3 => one ?_) (fun e3 => ?_)⟩
    · have := of_decide_eq_true e3
      show (if ds.length ≤ 60 then _ else _) = _
      rw [if_neg (by omega)]
    have l60 : ds.length ≤ 60 := by
      have z : ¬ ((60 : Int) < ys.length) := fun h => e3 (decide_eq_true h)
      omega
    have bw0 : bookWrong ss (.list ds) = (match firstK ds.length (badRec ss ds) with
      | some i => .tuple [.str "record", .int i, recWrong ss (ds.getD i .none)]
      | none => .none) := by
      show (if ds.length ≤ 60 then _ else _) = _
      rw [if_pos l60]
    refine ⟨.ref u, rfl, u, ys, rfl, sqt, ?_⟩
    refine for_it (walk_enum (K := K) (a := u) (xs := ys)) (fun i σ H' => ∃ z2 z3 z4, σ = [some pn, some (.ref u), z2, z3, z4] ∧ Same H H' ∧ ∀ j, j < i → badRec ss ds j = false) ⟨none, none, none, rfl, Same.refl _, fun j hj => absurd hj (Nat.not_lt_zero j)⟩
      (fun i σ H' _ h => ?_) (fun i x σ H' H2 hi h hy => ?_) (fun σ H' h => ?_)
    · obtain ⟨_, _, _, _, s1, _⟩ := h
      exact (Ky.of s1).sqL sqt
    · obtain ⟨z2, z3, z4, rfl, s1, all⟩ := h
      obtain ⟨T, u1, u2, rfl, nT, rfl, e1, e2⟩ := hy
      obtain rfl : u1 = .int (i : Nat) := (Option.some.inj e1).symm
      have e2' : ys[i]? = some u2 := e2
      have s2 := s1.trans (same_upd nT (o := .tup [.int (i : Nat), u2]))
      obtain ⟨dy, ey, hdy⟩ := dpAll_get ((Ky.of s2).dpAll ds ys hys) e2'
      have gy : ds.getD i .none = dy := by
        rw [List.getD_eq_getElem?_getD, ey]
        rfl
      refine ⟨T, _, rfl, SqT.of upd_same, rfl, _, _, rfl, _, _, rfl, rfl, ?_⟩
      refine ⟨pn, rfl, u2, rfl, pn, u2, ss, dy, rfl, (Ky.of s2).dp _ _ hp, gp, hdy, pl_mem hpls (List.mem_of_getElem? ey), fun H3 r s3 d3 => ?_⟩
      refine ⟨r, rfl, rfl, _, rfl, ite2 (fun e5 => ?_) (fun e5 => ?_)⟩
      · have bad : badRec ss ds i = true := by
          unfold badRec
          rw [gy, ← non_v d3]
          exact e5
        refine ⟨_, rfl, _, rfl, (by show 3 ≤ sizeLine; decide), fun t nt => q _ _ ((s2.trans s3).trans (same_upd nt)) ?_⟩
        rw [bw0, firstK_some (by omega) bad all]
        show Dp K _ _ (.tuple [.str "record", .int (i : Nat), recWrong ss (ds.getD i .none)])
        rw [gy]
        exact .tup (SqT.of upd_same) (.cons (.str _) (.cons (.int _) (.cons ((Ky.of (same_upd nt)).dp _ _ d3) .nil)))
      · refine ⟨_, _, _, rfl, s2.trans s3, fun j hj => ?_⟩
        by_cases z : j = i
        · rw [z]
          unfold badRec
          rw [gy, ← non_v d3]
          exact Bool.eq_false_iff.mpr e5
        · exact all j (by omega)
    · obtain ⟨z2, z3, z4, rfl, s1, all⟩ := h
      refine q _ _ s1 ?_
      rw [bw0, firstK_none fun j hj => all j (by omega)]
      exact .non
end
end Cv
set_option Elab.async false
set_option linter.all false
set_option maxRecDepth 100000
set_option maxHeartbeats 1000000
namespace Cv
open PySem PySem.Spec PyProof.Rows L2
/-! ### what is no record, no book is refused -/
abbrev sNr : Stmt := topS 33
theorem scNr : FnScope ["plan", "record"] ["plan", "record"] (defScope sNr) := ⟨rfl, rfl, rfl, by decide +kernel, rfl, by decide +kernel, by decide +kernel⟩
abbrev sNb : Stmt := topS 34
theorem scNb : FnScope ["plan", "book"] ["plan", "book"] (defScope sNb) := ⟨rfl, rfl, rfl, by decide +kernel, rfl, by decide +kernel, by decide +kernel⟩
/-- what is right by W is let by, another thing refused with C -/
def spNd (W : List (Str × List Str) → PyData → PyData) (C : Addr) (K : PySem.W.Frag) : Sp := fun vs H Q E => ∃ (pn tv : V) (ss : List (Str × List Str)) (d : PyData), vs = [pn, tv] ∧ Dp K H pn (planD ss) ∧ GoodP ss ∧ Dp K H tv d ∧ pl d = true ∧
  (W ss d = .none → ∀ H', Same H H' → Q .non H') ∧ (W ss d ≠ .none → ∀ H', Same H H' → E (.ref C) none H')
section
variable {P : Program} {w : World} {K : PySem.W.Frag} {mg : Str → Option Value} {base : Heap}
theorem ok_nr {f fR C : Addr} {fd fdR : FuncData} {k : Nat} (F : Fun K "need_record" "need_record" sNr f fd) (R : At P w K mg base CX0 k "is_record" fR fdR ["plan", "thing"] (spIr K)) (X : OwnX K mg "NoRecord" C) : FnOk P w K mg base (CX P w) (k + 1) f fd ["plan", "record"] (spNd recWrong C K) := by
  refine F.okX scNr (fun vs H Q E h => ?_) (fun cdv A outer s H vs Q E hr h => ?_)
  · obtain ⟨pn, tv, ss, d, rfl, _⟩ := h
    rfl
  · obtain ⟨pn, tv, ss, d, rfl, hp, gp, hd, hpl, q1, q2⟩ := h
    refine ⟨_, pss_one (ps_if (pt_not (pt_val (pe_call R.ok hr (by rfl) R.g R.kp R.b .nil pass0 (pa_cons (pv 0) (pa_cons (pv 1) pa_nil)))))
      (pss_one (ps_raise rfl (takes_of rfl rfl rfl rfl) (pmk_own PySem.F.excBase_ValueError X.x X.g X.k (raises_own X.b X.t) (by rfl)))) pss_nil), ?_⟩
    refine ⟨pn, rfl, tv, rfl, pn, tv, ss, d, rfl, hp, gp, hd, hpl, fun H1 s1 => ⟨_, rfl, ite2 (fun e => ?_) (fun e => ?_)⟩⟩
    · refine q2 (fun z => ?_) H1 s1
      rw [z] at e
      cases e
    · refine q1 (isNon_iff.mp ?_) H1 s1
      cases hn : isNon (recWrong ss d) with
      | true => rfl
      | false =>
        rw [hn] at e
        exact absurd rfl e
theorem ok_nb {f fR C : Addr} {fd fdR : FuncData} {k : Nat} (F : Fun K "need_book" "need_book" sNb f fd) (R : At P w K mg base CX0 k "wrong_in_book" fR fdR ["plan", "thing"] (spWb K)) (X : OwnX K mg "NoBook" C) : FnOk P w K mg base (CX P w) (k + 1) f fd ["plan", "book"] (spNd bookWrong C K) := by
  refine F.okX scNb (fun vs H Q E h => ?_) (fun cdv A outer s H vs Q E hr h => ?_)
  · obtain ⟨pn, tv, ss, d, rfl, _⟩ := h
    rfl
  · obtain ⟨pn, tv, ss, d, rfl, hp, gp, hd, hpl, q1, q2⟩ := h
    refine ⟨_, pss_one (ps_if (pt_cmpR op_notN (pe_call R.ok hr (by rfl) R.g R.kp R.b .nil pass0 (pa_cons (pv 0) (pa_cons (pv 1) pa_nil))) pe_non rfl)
      (pss_one (ps_raise rfl (takes_of rfl rfl rfl rfl) (pmk_own PySem.F.excBase_ValueError X.x X.g X.k (raises_own X.b X.t) (by rfl)))) pss_nil), ?_⟩
    refine ⟨pn, rfl, tv, rfl, pn, tv, ss, d, rfl, hp, gp, hd, hpl, fun H1 r s1 d1 => ⟨rfl, _, rfl, ite2 (fun e => ?_) (fun e => ?_)⟩⟩
    · refine q2 (fun z => ?_) H1 s1
      rw [z] at d1
      cases d1
      exact ndT e rfl
    · refine q1 (isNon_iff.mp ?_) H1 s1
      rw [← non_v d1]
      exact decide_eq_true (ndF e)
end
/-! ### looked at, of a plan -/
def spLook (W : List (Str × List Str) → PyData → PyData) (K : PySem.W.Frag) (P1 P2 : Addr) : Sp := fun vs H Q _ => ∃ (pn tv : V) (ss : List (Str × List Str)) (d : PyData), vs = [pn, tv] ∧ Dp K H pn (planD ss) ∧ GoodP ss ∧ Dp K H tv d ∧ pl d = true ∧ Tabs P1 P2 H ∧ ∀ H' r, Tx P1 P2 H H' → Dp K H' r (W ss d) → Q r H'
/-- called with what is none by W -/
def spRfs (W : List (Str × List Str) → PyData → PyData) (C : Addr) (K : PySem.W.Frag) (P1 P2 : Addr) (us : List V) : Sp := fun vs H _ E => ∃ (pn tv : V) (ss : List (Str × List Str)) (d : PyData), vs = pn :: tv :: us ∧ Dp K H pn (planD ss) ∧ GoodP ss ∧ Dp K H tv d ∧ pl d = true ∧ Tabs P1 P2 H ∧ W ss d ≠ .none ∧ ∀ H', Tx P1 P2 H H' → E (.ref C) none H'
section
variable {P : Program} {w : World} {K : PySem.W.Frag} {mg : Str → Option Value} {base : Heap}
/-- a def whose first rows ask for a plan, then for a record or a book of it -/
theorem ok_ref2 {nm nd a2 : Str} {W : List (Str × List Str) → PyData → PyData} {st : Stmt} {rest : List Stmt} {N ps : List Str} {f fN fD C0 C P1 P2 : Addr} {fd fdN fdD : FuncData} {k : Nat} {us : List V} {p1 p2 p3 p4 p5 p6 p7 p8 p9 : Pos} (F : Fun K nm nm st f fd) (S : FnScope ("plan" :: a2 :: N) ("plan" :: a2 :: ps) (defScope st))
    (hb : defBody st = .Expr (.Call (.Name "need_plan" p1) [.Name "plan" p2] [] p3) p4 :: .Expr (.Call (.Name nd p5) [.Name "plan" p6, .Name a2 p7] [] p8) p9 :: rest) (hu : us.length = ps.length) (hn : Vis (defScope st) "plan") (hn2 : Vis (defScope st) a2) (hg : (defScope st).names.lookup ("need_plan" : Str) = some NameKind.globalImplicit) (hg2 : (defScope st).names.lookup nd = some NameKind.globalImplicit)
    (d1 : (a2 == ("__debug__" : Str)) = false) (d2 : (a2 == ("__classdict__" : Str)) = false) (d3 : (nd == ("__debug__" : Str)) = false)
    (A : At P w K mg base (CX P w) k "need_plan" fN fdN ["plan"] (spNp C0 K P1 P2)) (B : At P w K mg base (CX P w) k nd fD fdD ["plan", a2] (spNd W C K)) : FnOk P w K mg base (CX P w) (k + 1) f fd ("plan" :: a2 :: ps) (spRfs W C K P1 P2 us) := by
  refine F.okX S (fun vs H Q E h => ?_) (fun cdv A' outer s H vs Q E hr h => ?_)
  · obtain ⟨pn, tv, ss, d, rfl, _⟩ := h
    rw [List.length_cons, List.length_cons, List.length_cons, List.length_cons, hu]
  · obtain ⟨pn, tv, ss, d, rfl, hp, gp, hd, hpl, ht, no, q⟩ := h
    rw [hb]
    refine ⟨_, pss_cons (ps_expr (pe_call A.ok hr hg A.g A.kp A.b .nil passF (pa_cons (pv 0 (hv := hn)) pa_nil)))
      (pss_cons (ps_expr (pe_call (E := E) B.ok hr hg2 B.g B.kp B.b .nil (passes_call (takes_of rfl rfl rfl rfl) (fun _ _ _ _ h => h)) (pa_cons (pv 0 (hv := hn)) (pa_cons (pv 1 (hv := hn2) (hd := d1) (hcd := d2)) pa_nil)) (hdb := d3))) pss_nev), ?_⟩
    have e := good_plan gp
    have wp := (plan_wt gp).1
    refine ⟨pn, rfl, pn, planD ss, rfl, hp, by omega, ht, fun _ H1 x1 => ?_, fun z => absurd e z⟩
    exact ⟨pn, rfl, tv, rfl, pn, tv, ss, d, rfl, x1.2.dp _ _ hp, gp, x1.2.dp _ _ hd, hpl, fun z => absurd z no, fun _ H2 s2 => q _ (x1.trans (.of x1.1 s2))⟩
end
end Cv
set_option Elab.async false
set_option linter.all false
set_option maxRecDepth 100000
set_option maxHeartbeats 1000000
namespace Cv
open PySem PySem.Spec PyProof.Rows L2
/-! ### an item of a tuple -/
def spPickT (K : PySem.W.Frag) : Sp := fun vs H Q _ => ∃ (p c : Addr) (T : Nat) (l : Addr) (xs : List V), vs = [.ref p, .ref l] ∧ Pur H p c T ∧ T ≤ 1000000000 ∧ SqT K H l xs ∧ 0 < xs.length ∧ xs.length ≤ 1000 ∧ ∀ H' v, v ∈ xs → Pur H' p c (T + 1) → Kp p c H H' → Q v H'
theorem Kp.sqT {K : PySem.W.Frag} {H H' : Hp} {p c a : Addr} {T : Nat} {xs : List V} (k : Kp p c H H') (hP : Pur H p c T) (h : SqT K H a xs) : SqT K H' a xs := (Ky.of ((hid_kp k).trans hid_le)).sqT (hid_sqT hP h)
/-! ### a record -/
def ansV : Option Str → V
  | none => .non
  | some z => .str z
def ansD : Option Str → PyData
  | none => .none
  | some z => .str z
def AnsOk (ss : List (Str × List Str)) (as : List (Option Str)) : Prop := ∀ (i : Nat) (z : Str), as[i]? = some (some z) → z ∈ (ss.getD i ("", [])).2
def RecA (ss : List (Str × List Str)) (as : List (Option Str)) (m : Int) : Prop := as.length = ss.length ∧ AnsOk ss as ∧ 0 ≤ m ∧ m ≤ 1000000
def recD (as : List (Option Str)) (m : Int) : PyData := .tuple (as.map ansD ++ [PyData.int m])
def RecV (K : PySem.W.Frag) (ss : List (Str × List Str)) (H : Hp) (x : V) : Prop := ∃ (r : Addr) (as : List (Option Str)) (m : Int), x = .ref r ∧ SqT K H r (as.map ansV ++ [.int m]) ∧ RecA ss as m
theorem RecV.ky {K : PySem.W.Frag} {ss : List (Str × List Str)} {H H' : Hp} {x : V} (h : RecV K ss H x) (k : Ky H H') : RecV K ss H' x := by
  obtain ⟨r, as, m, e, h1, h2⟩ := h
  exact ⟨r, as, m, e, k.sqT h1, h2⟩
theorem RecV.kp {K : PySem.W.Frag} {ss : List (Str × List Str)} {H H' : Hp} {x : V} {p c : Addr} {T : Nat} (h : RecV K ss H x) (hP : Pur H p c T) (k : Kp p c H H') : RecV K ss H' x := by
  obtain ⟨r, as, m, e, h1, h2⟩ := h
  exact ⟨r, as, m, e, k.sqT hP h1, h2⟩
theorem ans_dp {K : PySem.W.Frag} {H : Hp} {m : Int} : ∀ as : List (Option Str), DpAll K H (as.map ansV ++ [.int m]) (as.map ansD ++ [PyData.int m])
  | [] => .cons (.int m) .nil
  | none :: r => .cons .non (ans_dp r)
  | some z :: r => .cons (.str z) (ans_dp r)
theorem RecV.dp {K : PySem.W.Frag} {ss : List (Str × List Str)} {H : Hp} {x : V} (h : RecV K ss H x) : ∃ as m, Dp K H x (recD as m) ∧ RecA ss as m := by
  obtain ⟨r, as, m, rfl, h1, h2⟩ := h
  exact ⟨as, m, .tup h1 (ans_dp as), h2⟩
theorem rec_ok {ss : List (Str × List Str)} {as : List (Option Str)} {m : Int} (gp : GoodP ss) (h : RecA ss as m) : recWrong ss (recD as m) = .none ∧ pl (recD as m) = true ∧ wt (recD as m) ≤ 500 := by
  obtain ⟨h1, h2, h3, h4⟩ := h
  have short : ∀ (i : Nat) (z : Str), as[i]? = some (some z) → z.length ≤ 4 ∧ Lets z := fun i z e => by
    have hi : i < ss.length := by
      have := (List.getElem?_eq_some_iff.mp e).1
      omega
    have hz := h2 i z e
    rw [List.getD_eq_getElem?_getD, List.getElem?_eq_getElem hi] at hz
    have g := gp.2.2.2 _ (List.getElem_mem hi)
    exact ⟨(g.2.2.2.2.2.2 z hz).2.1, (g.2.2.2.2.2.2 z hz).2.2⟩
  refine ⟨?_, ?_, ?_⟩
  · show (if (as.map ansD ++ [PyData.int m]).length = ss.length + 1 then _ else _) = _
    have e1 : firstK ss.length (badCode ss (as.map ansD ++ [PyData.int m])) = none := firstK_none fun k hk => by
      unfold badCode
      rw [List.getD_eq_getElem?_getD, List.getElem?_append_left (by rw [List.length_map]; omega), List.getElem?_map, List.getElem?_eq_getElem (by omega)]
      cases ea : as[k]'(by omega) with
      | none => rfl
      | some z =>
        show (!inCodes _ (.str z)) = false
        show (!decide (z ∈ _)) = false
        rw [decide_eq_true (h2 k z (by rw [List.getElem?_eq_getElem (by omega), ea]))]
        rfl
    rw [if_pos (by rw [List.length_append, List.length_map]; simp; omega), e1]
    have e2 : (as.map ansD ++ [PyData.int m]).getD ss.length .none = .int m := by
      rw [List.getD_eq_getElem?_getD, List.getElem?_append_right (by rw [List.length_map]; omega), List.length_map, h1]
      simp
    show (if withinD 0 1000000 ((as.map ansD ++ [PyData.int m]).getD ss.length .none) = true then _ else _) = _
    rw [e2, if_pos]
    show (decide ((0 : Int) ≤ m) && decide (m ≤ 1000000)) = true
    rw [decide_eq_true h3, decide_eq_true h4]
    rfl
  · unfold recD
    rw [pl]
    refine pls_of fun d hd => ?_
    rcases List.mem_append.mp hd with hd | hd
    · obtain ⟨a, ha, rfl⟩ := List.mem_map.mp hd
      cases a with
      | none => rfl
      | some z =>
        obtain ⟨i, hi, e⟩ := List.mem_iff_getElem.mp ha
        exact lets_pl (short i z (by rw [List.getElem?_eq_getElem hi, e])).2
    · rw [List.mem_singleton.mp hd, pl]
      exact decide_eq_true (by omega)
  · have w := wts_of (n := 42) (ds := as.map ansD ++ [PyData.int m]) fun d hd => by
      rcases List.mem_append.mp hd with hd | hd
      · obtain ⟨a, ha, rfl⟩ := List.mem_map.mp hd
        cases a with
        | none => show wt .none ≤ 42; rw [wt]; omega
        | some z =>
          obtain ⟨i, hi, e⟩ := List.mem_iff_getElem.mp ha
          have := (short i z (by rw [List.getElem?_eq_getElem hi, e])).1
          show wt (.str z) ≤ 42
          rw [wt]
          omega
      · rw [List.mem_singleton.mp hd, wt]
        omega
    rw [List.length_append, List.length_map, List.length_singleton, h1] at w
    have g4 := gp.2.1
    have w2 : (ss.length + 1) * (42 + 2) ≤ 5 * 44 := Nat.mul_le_mul_right _ (by omega)
    unfold recD
    rw [wt]
    omega
abbrev sRec : Stmt := topS 47
abbrev nRec : List Str := ["_law_purse_here", "_law_plan_here", "_law_answers", "_law_name", "_law_codes_here"]
theorem scRec : FnScope nRec ["_law_purse_here", "_law_plan_here"] (defScope sRec) := ⟨rfl, rfl, rfl, by decide +kernel, rfl, by decide +kernel, by decide +kernel⟩
def spRec (K : PySem.W.Frag) : Sp := fun vs H Q _ => ∃ (p c : Addr) (T : Nat) (pn : V) (ss : List (Str × List Str)), vs = [.ref p, pn] ∧ Pur H p c T ∧ T ≤ 999990000 ∧ Dp K (hid p c H) pn (planD ss) ∧ GoodP ss ∧
  ∀ H' x, Kp p c H H' → Pur H' p c (T + 100) → RecV K ss H' x → Q x H'
section
variable {P : Program} {w : World} {K : PySem.W.Frag} {mg : Str → Option Value} {base : Heap}
theorem ok_pickT {f fD : Addr} {fd fdD : FuncData} {k : Nat} (F : Fun K "_law_pick" "_law_pick" sPick f fd) (D : At P w K mg base CX0 k "_law_draw" fD fdD ["_law_purse_here", "_law_out_of"] spDraw) (ml : mg "len" = none) : FnOk P w K mg base CX0 (k + 1) f fd ["_law_purse_here", "_law_some"] (spPickT K) := by
  refine F.ok scK (fun vs H Q E h => ?_) (fun cdv A outer s H vs Q E hr h => ?_)
  · obtain ⟨p, c, T, l, xs, rfl, _⟩ := h
    rfl
  · obtain ⟨p, c, T, l, xs, rfl, hP, hT, hl, z0, z1, q⟩ := h
    refine ⟨_, pss_one (ps_ret (pe_ix ix_tup (pv 1) (pe_call D.ok hr (by rfl) D.g D.kp D.b .nil pass0 (pa_cons (pv 0) (pa_cons (pe_callB call_len_seq (by rfl) ml PySem.boot_len (pa_cons (pv 1) pa_nil)) pa_nil))) (fun _ _ => rfl))), ?_⟩
    refine ⟨.ref l, rfl, .ref p, rfl, .ref l, rfl, l, xs, rfl, .inr hl, p, c, T, _, rfl, hP, hT, by omega, by omega, fun H' r r0 r1 hP' hK => ?_⟩
    obtain ⟨v, hm, ha⟩ := mem_at (xs := xs) r0 r1
    exact ⟨l, xs, r, v, rfl, rfl, hK.sqT hP hl, ha, q H' v hm hP' hK⟩
theorem ok_rec {f fD fK : Addr} {fd fdD fdK : FuncData} {k : Nat} (F : Fun K "_law_record" "_law_record" sRec f fd) (D : At P w K mg base CX0 k "_law_draw" fD fdD ["_law_purse_here", "_law_out_of"] spDraw) (Pk : At P w K mg base CX0 k "_law_pick" fK fdK ["_law_purse_here", "_law_some"] (spPickT K))
    (mi : mg "int" = none) (mt : mg "tuple" = none) : FnOk P w K mg base CX0 (k + 1) f fd ["_law_purse_here", "_law_plan_here"] (spRec K) := by
  refine F.ok scRec (fun vs H Q E h => ?_) (fun cdv A outer s H vs Q E hr h => ?_)
  · obtain ⟨p, c, T, pn, ss, rfl, _⟩ := h
    rfl
  · obtain ⟨p, c, T, pn, ss, rfl, hP, hT, hp, gp, q⟩ := h
    refine ⟨_, pss_cons (ps_set (i := 2) scRec.nd rfl (.inl rfl) (pe_lst pa_nil))
      (pss_cons (ps_for PassesOwn.never rfl (pi_tup (pv 1)) (pg_tup rfl (pgs_cons (pg_name (i := 3) scRec.nd rfl (.inl rfl)) (pgs_cons (pg_name (i := 4) scRec.nd rfl (.inl rfl)) pgs_nil)))
        (pss_one (ps_expr (pe_bm PySem.F.plainAttrs_list PySem.F.slot_list_append PySem.F.type_list_append mt_append (pv 2) (pa_cons (pe_ix ix_list (pe_lst (pa_cons (pe_call Pk.ok hr (by rfl) Pk.g Pk.kp Pk.b .nil pass0 (pa_cons (pv 0) (pa_cons (pv 4) pa_nil))) (pa_cons pe_non pa_nil)))
          (pe_callTy call_int1 (by rfl) mi (by decide +kernel) (pa_cons (pe_cmpR op_eq (pe_call D.ok hr (by rfl) D.g D.kp D.b .nil pass0 (pa_cons (pv 0) (pa_cons pe_int pa_nil))) pe_int (nomark _)) pa_nil)) (fun _ _ => rfl)) pa_nil)))))
      (pss_one (ps_ret (pe_op op_catG (pe_callTy call_tuple_of (by rfl) mt (by decide +kernel) (pa_cons (pv 2) pa_nil)) (pe_tup (pa_cons (pe_call D.ok hr (by rfl) D.g D.kp D.b .nil pass0 (pa_cons (pv 0) (pa_cons (pe_ix ix_list (pe_lst (pa_cons pe_int (pa_cons (pe_op op_add (pe_op op_pow pe_int pe_int) pe_int) pa_nil))) (pe_call D.ok hr (by rfl) D.g D.kp D.b .nil pass0 (pa_cons (pv 0) (pa_cons pe_int pa_nil))) (fun _ _ => rfl)) pa_nil))) pa_nil)))))), ?_⟩
    obtain ⟨t, xs, rfl, sqp, hxs⟩ := dp_tup hp
    have lx : xs.length = ss.length := by
      have := dpAll_len hxs
      rw [List.length_map] at this
      exact this
    have l4 := gp.2.1
    refine ⟨Nat.zero_le _, fun o no => ?_⟩
    obtain ⟨op', oc⟩ := hP.nep no
    have s0 := same_upd no (o := .lst [])
    have hP1 := hP.same s0
    refine ⟨.ref t, rfl, t, rfl, ⟨xs, (Ky.of (hid_le.trans s0)).sqT sqp⟩, ?_⟩
    refine for_it (walk_tup (K := K) (a := t) (xs := xs)) (fun i σ H' => ∃ y3 y4 as, σ = [some (.ref p), some (.ref t), some (.ref o), y3, y4] ∧ H' o = some (.lst (as.map ansV)) ∧ as.length = i ∧ AnsOk ss as ∧ Pur H' p c (T + 10 * i) ∧ Kp p c H H')
      ⟨none, none, [], rfl, upd_same, rfl, fun i z e => by simp at e, hP1, Kp.of s0⟩ (fun i σ H' _ h => ?_) (fun i x σ H' H'' _ h hy => ?_) (fun σ H' h => ?_)
    · obtain ⟨y3, y4, as, rfl, ho, hl, hok, hPi, hKi⟩ := h
      exact (Ky.of ((hid_kp hKi).trans hid_le)).sqT sqp
    · obtain ⟨rfl, hx⟩ := hy
      obtain ⟨y3, y4, as, rfl, ho, hl, hok, hPi, hKi⟩ := h
      obtain ⟨dx, ex, hdx⟩ := dpAll_get ((Ky.of (hid_kp hKi)).dpAll _ xs hxs) hx
      have hi : i < ss.length := by
        have := (List.getElem?_eq_some_iff.mp hx).1
        omega
      rw [List.getElem?_map, List.getElem?_eq_getElem hi] at ex
      have ex2 : sortD ss[i] = dx := Option.some.inj ex
      rw [← ex2] at hdx
      obtain ⟨a, b, rfl, sqa, sqb⟩ := sort_val hdx
      have gi := gp.2.2.2 _ (List.getElem_mem hi)
      have gs : ss.getD i ("", []) = ss[i] := by
        rw [List.getD_eq_getElem?_getD, List.getElem?_eq_getElem hi]
        rfl
      have lw := gi.2.2.2.1
      have lw6 := gi.2.2.2.2.1
      refine ⟨a, _, rfl, (Ky.of hid_le).sqT sqa, rfl, _, _, rfl, _, _, rfl, rfl, ?_⟩
      refine ⟨.ref o, rfl, .inl ⟨rfl, _, SqL.of ho⟩, ?_⟩
      refine ⟨.ref p, rfl, .ref b, rfl, p, c, _, b, _, rfl, hPi, by omega, (Ky.of hid_le).sqT sqb, by rw [List.length_map]; omega, by rw [List.length_map]; omega, fun H2 v hv hP2 hK2 => ?_⟩
      obtain ⟨z, hz, rfl⟩ := List.mem_map.mp hv
      refine ⟨(by show 2 ≤ sizeLine; decide), fun l nl => ?_⟩
      have s2 := same_upd nl (o := .lst [.str z, .non])
      obtain ⟨lp, lc⟩ := hP2.nep nl
      refine ⟨.ref p, rfl, p, c, _, 6, rfl, hP2.same s2, by omega, by decide, by decide, fun H3 r r0 r1 hP3 hK3 => ?_⟩
      have hl3 := hK3 _ _ lp lc (show (upd H2 l (.lst [.str z, .non])) l = some (.lst [.str z, .non]) from upd_same)
      have ho3 := hK3 _ _ op' oc (s2 _ _ (hK2 _ _ op' oc ho))
      have k3 := ((hKi.trans hK2).trans (Kp.of s2)).trans hK3
      have fin : ∀ (ans : Option Str), (∀ z, ans = some z → z ∈ ss[i].2) → ∃ (l : Addr) (xs : List V) (y : V), V.ref o = V.ref l ∧ [ansV ans] = [y] ∧ H3 l = some (.lst xs) ∧ xs.length < sizeLine ∧ ∃ y3 y4 as', [some (V.ref p), some (V.ref t), some (V.ref o), some (V.str ss[i].1), some (V.ref b)] = [some (V.ref p), some (V.ref t), some (V.ref o), y3, y4] ∧ (upd H3 l (.lst (xs ++ [y]))) o = some (.lst (as'.map ansV)) ∧ as'.length = i + 1 ∧ AnsOk ss as' ∧ Pur (upd H3 l (.lst (xs ++ [y]))) p c (T + 10 * (i + 1)) ∧ Kp p c H (upd H3 l (.lst (xs ++ [y]))) := fun ans hans => by
        refine ⟨o, _, _, rfl, rfl, ho3, by rw [List.length_map]; exact small1000 (by omega), _, _, as ++ [ans], rfl, by rw [upd_same, List.map_append]; rfl, by rw [List.length_append, hl]; rfl, fun j zj ej => ?_, (hP3.le (by omega)).upd op' oc, k3.upd no⟩
        by_cases hj : j < as.length
        · rw [List.getElem?_append_left hj] at ej
          exact hok j zj ej
        · rw [List.getElem?_append_right (by omega)] at ej
          have ej0 : j - as.length = 0 := by
            cases hc : j - as.length with
            | zero => rfl
            | succ n =>
              rw [hc] at ej
              simp at ej
          rw [ej0] at ej
          have e1 : ans = some zj := by simpa using ej
          have e2 : j = i := by omega
          rw [e2, gs]
          exact hans zj e1
      refine ⟨rfl, .inr ⟨_, rfl, ?_⟩⟩
      by_cases h0 : r = 0
      · subst h0
        exact ⟨l, _, 1, .non, rfl, rfl, SqL.of hl3, rfl, fin none (fun z e => nomatch e)⟩
      · have e0 : decide (V.int r = V.int 0) = false := decide_eq_false fun z => h0 (V.int.inj z)
        rw [e0]
        exact ⟨l, _, 0, .str z, rfl, rfl, SqL.of hl3, rfl, fin (some z) (fun z' e => by cases e; exact hz)⟩
    · obtain ⟨y3, y4, as, rfl, ho, hl, hok, hPi, hKi⟩ := h
      refine ⟨.ref o, rfl, o, _, rfl, .inl ⟨SqL.of ho, fun t2 nt2 => ?_⟩⟩
      have s2 := same_upd nt2 (o := .tup (as.map ansV))
      have hP2 := hPi.same s2
      refine ⟨.ref p, rfl, 10, 6, rfl, rfl, ⟨by decide, by decide, by decide⟩, _, _, rfl, rfl, (by show 2 ≤ sizeLine; decide), fun l nl => ?_⟩
      have s3 := same_upd nl (o := .lst [.int 10, .int (10 ^ 6 + 1)])
      obtain ⟨lp, lc⟩ := hP2.nep nl
      refine ⟨.ref p, rfl, p, c, _, 2, rfl, hP2.same s3, by omega, by decide, by decide, fun H4 r r0 r1 hP4 hK4 => ?_⟩
      have hl4 := hK4 _ _ lp lc (show (upd _ l (.lst [.int 10, .int (10 ^ 6 + 1)])) l = some (.lst [.int 10, .int (10 ^ 6 + 1)]) from upd_same)
      obtain ⟨n, hat, n1, n2⟩ : ∃ n : Int, atI ([.int 10, .int (10 ^ 6 + 1)] : List V) r = some (.int n) ∧ 1 ≤ n ∧ n ≤ 1000001 := by
        have hr' : r = 0 ∨ r = 1 := by omega
        rcases hr' with rfl | rfl
        · exact ⟨10, rfl, by omega, by omega⟩
        · exact ⟨10 ^ 6 + 1, rfl, by decide, by decide⟩
      refine ⟨l, _, r, .int n, rfl, rfl, SqL.of hl4, hat, p, c, _, n, rfl, hP4, by omega, n1, by omega, fun H5 m m0 m1 hP5 hK5 => ?_⟩
      refine ⟨(by show 1 ≤ sizeLine; decide), fun u nu => ?_⟩
      have k5 := (((hKi.trans (Kp.of s2)).trans (Kp.of s3)).trans hK4).trans hK5
      have s6 := same_upd nu (o := .tup [.int m])
      have sqt : SqT K (upd H5 u (.tup [.int m])) t2 (as.map ansV) := (Ky.of s6).sqT (hK5.sqT hP4 (hK4.sqT (hP2.same s3) ((Ky.of s3).sqT (SqT.of upd_same))))
      refine ⟨t2, u, _, _, rfl, rfl, sqt, SqT.of upd_same, by rw [List.length_map]; exact Nat.le_of_lt (small1000 (by show as.length + 1 ≤ 1000; omega)), fun H7 r7 s7 sq7 => ?_⟩
      exact q _ _ ((k5.trans (Kp.of s6)).trans (Kp.of s7)) (((hP5.same s6).same s7).le (by omega)) ⟨r7, as, m, rfl, sq7, by omega, hok, m0, by omega⟩
end
end Cv
set_option Elab.async false
set_option linter.all false
set_option maxRecDepth 100000
set_option maxHeartbeats 1000000
namespace Cv
open PySem PySem.Spec PyProof.Rows L2
/-! ### a book -/
theorem sqT_updL {K : PySem.W.Frag} {H : Hp} {a D : Addr} {xs ys : List V} {o : HO} (h : SqT K H a xs) (e : H D = some (.lst ys)) : SqT K (upd H D o) a xs := by
  rcases h with (h | ⟨o', h⟩) | h
  · exact .inl (.inl (by rw [upd_ne (ne_of h e fun z => nomatch z)]; exact h))
  · exact .inl (.inr ⟨o', by rw [upd_ne (ne_of h e fun z => nomatch z)]; exact h⟩)
  · exact .inr h
theorem RecV.updL {K : PySem.W.Frag} {ss : List (Str × List Str)} {H : Hp} {x : V} {D : Addr} {ys : List V} {o : HO} (h : RecV K ss H x) (e : H D = some (.lst ys)) : RecV K ss (upd H D o) x := by
  obtain ⟨r, as, m, e1, h1, h2⟩ := h
  exact ⟨r, as, m, e1, sqT_updL h1 e, h2⟩
abbrev sBk : Stmt := topS 48
abbrev nBk : List Str := ["_law_purse_here", "_law_plan_here", "_law_k"]
theorem scBk : FnScope nBk ["_law_purse_here", "_law_plan_here"] (defScope sBk) := ⟨rfl, rfl, rfl, by decide +kernel, rfl, by decide +kernel, by decide +kernel⟩
def spBk (K : PySem.W.Frag) : Sp := fun vs H Q _ => ∃ (p c : Addr) (T : Nat) (pn : V) (ss : List (Str × List Str)), vs = [.ref p, pn] ∧ Pur H p c T ∧ T ≤ 999900000 ∧ Dp K (hid p c H) pn (planD ss) ∧ GoodP ss ∧
  ∀ H' l xs, Kp p c H H' → Pur H' p c (T + 7000) → H' l = some (.lst xs) → l ≠ p → l ≠ c → xs.length ≤ 60 → (∀ x ∈ xs, RecV K ss H' x) → Q (.ref l) H'
section
variable {P : Program} {w : World} {K : PySem.W.Frag} {mg : Str → Option Value} {base : Heap}
theorem ok_bk {f fD fR : Addr} {fd fdD fdR : FuncData} {k : Nat} (F : Fun K "_law_book" "_law_book" sBk f fd) (D : At P w K mg base CX0 k "_law_draw" fD fdD ["_law_purse_here", "_law_out_of"] spDraw) (R : At P w K mg base CX0 k "_law_record" fR fdR ["_law_purse_here", "_law_plan_here"] (spRec K)) (mr : mg "range" = none) :
    FnOk P w K mg base CX0 (k + 1) f fd ["_law_purse_here", "_law_plan_here"] (spBk K) := by
  refine F.ok scBk (fun vs H Q E h => ?_) (fun cdv A outer s H vs Q E hr h => ?_)
  · obtain ⟨p, c, T, pn, ss, rfl, _⟩ := h
    rfl
  · obtain ⟨p, c, T, pn, ss, rfl, hP, hT, hp, gp, q⟩ := h
    refine ⟨_, pss_one (ps_ret (pe_lc (own := [("_law_k", 2)]) (g := gName 2) (tt := tYes) (by rfl) scBk.nd (pi_range1 (by rfl) mr (pa_cons (pe_call D.ok hr (by rfl) D.g D.kp D.b .nil pass0 (pa_cons (pv 0) (pa_cons (pe_ix ix_list (pe_lst (pa_cons pe_int (pa_cons pe_int (pa_cons pe_int pa_nil)))) (pe_call D.ok hr (by rfl) D.g D.kp D.b .nil pass0 (pa_cons (pv 0) (pa_cons pe_int pa_nil))) (fun _ _ => rfl)) pa_nil))) pa_nil))
        (blkOk_by (own := [("_law_k", 2)]) (N := nBk) (sc := defScope sBk) (by decide +kernel)) (fun _ _ _ _ _ => pg_name (i := 2) scBk.nd rfl (Or.inl rfl)) (fun _ _ _ _ _ => pts_nil) (fun _ _ _ _ _ => pe_call R.ok hr (by rfl) R.g R.kp R.b .nil pass0 (pa_cons (pv 0) (pa_cons (pv 1) pa_nil))))), ?_⟩
    refine ⟨.ref p, rfl, (by show 3 ≤ sizeLine; decide), fun l nl => ?_⟩
    have s1 := same_upd nl (o := .lst [.int 4, .int 12, .int 61])
    obtain ⟨lp, lc⟩ := hP.nep nl
    refine ⟨.ref p, rfl, p, c, T, 3, rfl, hP.same s1, by omega, by decide, by decide, fun H1 r r0 r1 hP1 hK1 => ?_⟩
    have hl1 := hK1 _ _ lp lc (show (upd H l (.lst [.int 4, .int 12, .int 61])) l = some (.lst [.int 4, .int 12, .int 61]) from upd_same)
    obtain ⟨n, hat, n1, n2⟩ : ∃ n : Int, atI ([.int 4, .int 12, .int 61] : List V) r = some (.int n) ∧ 1 ≤ n ∧ n ≤ 61 := by
      have hr' : r = 0 ∨ r = 1 ∨ r = 2 := by omega
      rcases hr' with rfl | rfl | rfl
      · exact ⟨4, rfl, by omega, by omega⟩
      · exact ⟨12, rfl, by omega, by omega⟩
      · exact ⟨61, rfl, by omega, by omega⟩
    refine ⟨l, _, r, .int n, rfl, rfl, SqL.of hl1, hat, p, c, _, n, rfl, hP1, by omega, n1, by omega, fun H2 m m0 m1 hP2 hK2 => ?_⟩
    have k2 := ((Kp.of (p := p) (c := c) s1).trans hK1).trans hK2
    refine ⟨m, rfl, by omega, by omega, fun D9 nD => ?_⟩
    obtain ⟨dp, dc⟩ := hP2.nep nD
    have nD0 := k2.free dp dc nD
    refine lc_range (lo := 0) (n := m.toNat) (fun i H' => ∃ xs, H' D9 = some (.lst xs) ∧ xs.length = i ∧ (∀ x ∈ xs, RecV K ss H' x) ∧ Pur H' p c (T + 2 + 100 * i) ∧ Kp p c H H')
      ⟨[], upd_same, rfl, (fun _ h => absurd h List.not_mem_nil), hP2.upd dp dc, k2.upd nD0⟩ (fun i H' hi h => ?_) (fun H' h => ?_)
    · obtain ⟨xs, hD, hl, hx, hPi, hKi⟩ := h
      refine ⟨rfl, .ref p, rfl, pn, rfl, p, c, _, pn, ss, rfl, hPi, by omega, (Ky.of (hid_kp hKi)).dp _ _ hp, gp, fun H3 x k3 hP3 rx => ?_⟩
      have hD3 := k3 _ _ dp dc hD
      refine ⟨_, hD3, small1000 (by omega), xs ++ [x], upd_same, by rw [List.length_append, hl]; rfl, fun y hy => ?_, (hP3.le (by omega)).upd dp dc, (hKi.trans k3).upd nD0⟩
      rcases List.mem_append.mp hy with hy | hy
      · exact ((hx y hy).kp hPi k3).updL hD3
      · rw [List.mem_singleton.mp hy]
        exact rx.updL hD3
    · obtain ⟨xs, hD, hl, hx, hPi, hKi⟩ := h
      exact q _ _ xs hKi (hPi.le (by omega)) hD dp dc (by omega) hx
end
end Cv
set_option Elab.async false
set_option linter.all false
set_option maxRecDepth 100000
set_option maxHeartbeats 1000000
namespace Cv
open PySem PySem.Spec PyProof.Rows L2
/-! ### counted: what is missing, how many have each code -/
/-- where nothing stood but a table -/
def Fresh (H : Hp) (D : Addr) : Prop := ∀ o, (∀ ps, o ≠ HO.tbl ps) → H D ≠ some o
theorem Fresh.ky {H H' : Hp} {D : Addr} (h : Fresh H' D) (k : Ky H H') : Fresh H D := fun o n e => h o n (k _ _ n e)
theorem Fresh.of {H : Hp} {D : Addr} (h : H D = none) : Fresh H D := fun o _ e => by
  rw [h] at e
  cases e
theorem Fresh.upd {H H' : Hp} {D : Addr} {o : HO} {xs : List V} (h : Fresh H D) (k : Ky H H') (eD : H' D = some (.lst xs)) : Ky H (upd H' D o) := ⟨fun a o' n e => by
  have na : a ≠ D := fun z => h o' n (by rw [← z]; exact e)
  rw [upd_ne na]
  exact k _ _ n e, fun a t => by
  obtain ⟨ps, e, r⟩ := k.tb a t
  exact ⟨ps, by rw [upd_ne (ne_of e eD fun z => nomatch z)]; exact e, r⟩⟩
def noAns (as : List (Option Str)) (k : Nat) : Bool := (as.getD k none).isNone
def gapsV (as : List (Option Str)) : List V := ((List.range as.length).filter (noAns as)).map fun k => V.int (k : Nat)
theorem rng_get {n i : Nat} (h : i < n) : (List.range n)[i]? = some i := by
  rw [List.getElem?_eq_getElem (by rw [List.length_range]; exact h), List.getElem_range]
theorem ans_non (a : Option Str) : decide (ansV a = V.non) = a.isNone := by
  cases a with
  | none => rfl
  | some z => exact decide_eq_false (fun z => nomatch z)
theorem ans_at {as : List (Option Str)} {m : Int} {i : Nat} (h : i < as.length) : atI (as.map ansV ++ [.int m]) ((i : Nat) : Int) = some (ansV (as.getD i none)) := atI_nat (by
  rw [List.getElem?_append_left (by rw [List.length_map]; exact h), List.getElem?_map, List.getD_eq_getElem?_getD, List.getElem?_eq_getElem h]
  rfl)
abbrev sGa : Stmt := topS 35
abbrev nGa : List Str := ["plan", "record", "k"]
theorem scGa : FnScope nGa ["plan", "record"] (defScope sGa) := ⟨rfl, rfl, rfl, by decide +kernel, rfl, by decide +kernel, by decide +kernel⟩
def spGa (K : PySem.W.Frag) (P1 P2 : Addr) : Sp := fun vs H Q _ => ∃ (pn : V) (r : Addr) (ss : List (Str × List Str)) (as : List (Option Str)) (m : Int), vs = [pn, .ref r] ∧ Dp K H pn (planD ss) ∧ GoodP ss ∧ SqT K H r (as.map ansV ++ [.int m]) ∧ RecA ss as m ∧ Tabs P1 P2 H ∧
  ∀ H' D, Tx P1 P2 H H' → Fresh H D → H' D = some (.lst (gapsV as)) → Q (.ref D) H'
/-! tally -/
def tallyV (as : List (Option Str)) (ws : List Str) : List V := ws.map (fun z => V.int ((as.countP fun a => decide (a = some z) : Nat) : Int)) ++ [V.int ((as.countP fun a => a.isNone : Nat) : Int)]
theorem cnt_str (as : List (Option Str)) (z : Str) : ((as.map ansV).countP fun y => eqV y (.str z)) = as.countP fun a => decide (a = some z) := by
  rw [List.countP_map]
  refine List.countP_congr fun a _ => ?_
  cases a with
  | none => simp [ansV, eqV]
  | some y => simp [ansV, eqV]
theorem cnt_non (as : List (Option Str)) : ((as.map ansV).countP fun y => eqV y .non) = as.countP fun a => a.isNone := by
  rw [List.countP_map]
  refine List.countP_congr fun a _ => ?_
  cases a with
  | none => simp [ansV, eqV]
  | some y => simp [ansV, eqV]
theorem ans_flat (as : List (Option Str)) : (as.map ansV).all flatV = true := by
  rw [List.all_map]
  refine List.all_eq_true.mpr fun a _ => ?_
  cases a <;> rfl
abbrev sTa : Stmt := topS 36
abbrev nTa : List Str := ["answers", "codes", "code"]
theorem scTa : FnScope nTa ["answers", "codes"] (defScope sTa) := ⟨rfl, rfl, rfl, by decide +kernel, rfl, by decide +kernel, by decide +kernel⟩
def spTa (K : PySem.W.Frag) : Sp := fun vs H Q _ => ∃ (a t : Addr) (as : List (Option Str)) (ws : List Str), vs = [.ref a, .ref t] ∧ SqL K H a (as.map ansV) ∧ SqT K H t (ws.map V.str) ∧ ws.length ≤ 6 ∧
  ∀ H' D, Same H H' → H D = none → H' D = some (.lst (tallyV as ws)) → Q (.ref D) H'
section
variable {P : Program} {w : World} {K : PySem.W.Frag} {mg : Str → Option Value} {base : Heap}
theorem ok_ga {f fN fR C CR P1 P2 : Addr} {fd fdN fdR : FuncData} {k : Nat} (F : Fun K "gaps" "gaps" sGa f fd) (N : At P w K mg base (CX P w) k "need_plan" fN fdN ["plan"] (spNp C K P1 P2)) (R : At P w K mg base (CX P w) k "need_record" fR fdR ["plan", "record"] (spNd recWrong CR K)) (ml : mg "len" = none) (mr : mg "range" = none) : FnOk P w K mg base (CX P w) (k + 1) f fd ["plan", "record"] (spGa K P1 P2) := by
  refine F.okX scGa (fun vs H Q E h => ?_) (fun cdv A outer s H vs Q E hr h => ?_)
  · obtain ⟨pn, r, ss, as, m, rfl, _⟩ := h
    rfl
  · obtain ⟨pn, r, ss, as, m, rfl, hp, gp, sq, ra, ht, q⟩ := h
    refine ⟨_, pss_cons (ps_expr (pe_call N.ok hr (by rfl) N.g N.kp N.b .nil passF (pa_cons (pv 0) pa_nil)))
      (pss_cons (ps_expr (pe_call R.ok hr (by rfl) R.g R.kp R.b .nil passF (pa_cons (pv 0) (pa_cons (pv 1) pa_nil))))
      (pss_one (ps_ret (pe_lc (own := [("k", 2)]) (g := gName 2) (tt := tTest (tOp (fun x y H Q => y = .non ∧ Q (.bl (decide (x = .non))) H) (tOp (rIxT K) (tVar 1) (tVar 2)) (tC .non))) (by rfl) scGa.nd (pi_range1 (by rfl) mr (pa_cons (pe_callB call_len_seq (by rfl) ml PySem.boot_len (pa_cons (pv 0) pa_nil)) pa_nil))
        (blkOk_by (own := [("k", 2)]) (N := nGa) (sc := defScope sGa) (by decide +kernel)) (fun _ _ _ _ _ => pg_name (i := 2) scGa.nd rfl (Or.inl rfl)) (fun _ _ _ _ _ => pts_one (pt_cmpR op_isN (pe_ix ix_tup (pv 1) (pv 2) (fun _ _ => rfl)) pe_non rfl)) (fun _ _ _ _ _ => pv 2))))), ?_⟩
    have e := good_plan gp
    have wp := (plan_wt gp).1
    obtain ⟨e1, e2, e3⟩ := rec_ok gp ra
    have hd : Dp K H (.ref r) (recD as m) := .tup sq (ans_dp as)
    refine ⟨pn, rfl, pn, planD ss, rfl, hp, by omega, ht, fun _ H1 x1 => ?_, fun z => absurd e z⟩
    refine ⟨pn, rfl, .ref r, rfl, pn, .ref r, ss, recD as m, rfl, x1.2.dp _ _ hp, gp, x1.2.dp _ _ hd, e2, fun _ H2 s2 => ?_, fun z => absurd e1 z⟩
    have x2 := x1.trans (.of x1.1 s2)
    obtain ⟨t, xs, rfl, sqp, hxs⟩ := dp_tup (x2.2.dp _ _ hp)
    have lx : xs.length = ss.length := by
      have := dpAll_len hxs
      rw [List.length_map] at this
      exact this
    have sq2 := x2.2.sqT sq
    have la := ra.1
    have g4 := gp.2.1
    refine ⟨.ref t, rfl, t, xs, rfl, .inr sqp, _, rfl, by omega, by omega, fun D nD => ?_⟩
    refine lc_range (lo := 0) (n := ((xs.length : Nat) : Int).toNat) (Grow H2 D (fil (List.range as.length) (noAns as) (fun k => V.int (k : Nat)))) (grow0 nD fil0) (fun i H5 hi g5 => ?_) (fun H5 g5 => ?_)
    · rw [Int.toNat_natCast] at hi
      rw [Int.zero_add]
      have hi2 : i < as.length := by omega
      refine ⟨rfl, .ref r, rfl, .int (i : Nat), rfl, r, _, _, _, rfl, rfl, (Ky.of g5.1).sqT sq2, ans_at hi2, rfl, _, rfl, ite2 (fun e14 => ?_) (fun e14 => ?_)⟩
      · have e15 : noAns as i = true := (ans_non _).symm.trans e14
        exact ⟨_, rfl, put nD g5 (Same.refl _) (Nat.lt_of_le_of_lt fil_len (by rw [List.length_range]; exact small1000 (by omega))) (fil_yes (rng_get hi2) e15)⟩
      · have e15 : noAns as i = false := Bool.eq_false_iff.mpr fun z => e14 ((ans_non _).trans z)
        exact left g5 (Same.refl _) (fil_no (rng_get hi2) e15)
    · have g6 := g5.2
      rw [fil_all (by rw [List.length_range, Int.toNat_natCast]; omega)] at g6
      exact q _ D (x2.trans (.of x2.1 g5.1)) ((Fresh.of nD).ky x2.2) g6
theorem ok_ta {f : Addr} {fd : FuncData} {k : Nat} (F : Fun K "tally" "tally" sTa f fd) : FnOk P w K mg base CX0 (k + 1) f fd ["answers", "codes"] (spTa K) := by
  refine F.ok scTa (fun vs H Q E h => ?_) (fun cdv A outer s H vs Q E hr h => ?_)
  · obtain ⟨a, t, as, ws, rfl, _⟩ := h
    rfl
  · obtain ⟨a, t, as, ws, rfl, sqa, sqt, l6, q⟩ := h
    refine ⟨_, pss_one (ps_ret (pe_op op_cat (pe_lc (own := [("code", 2)]) (g := gName 2) (tt := tYes) (te := tBM K "list" (Cnt.rCntF K) (tVar 0) (tCons (tVar 2) tNil)) (by rfl) scTa.nd (pi_tup (pv 1)) (blkOk_by (own := [("code", 2)]) (N := nTa) (sc := defScope sTa) (by decide +kernel)) (fun _ _ _ _ _ => pg_name (i := 2) scTa.nd rfl (Or.inl rfl)) (fun _ _ _ _ _ => pts_nil) (fun _ _ _ _ _ => pe_bm PySem.F.plainAttrs_list PySem.F.slot_list_count PySem.F.type_list_count Cnt.mt_countF (pv 0) (pa_cons (pv 2) pa_nil)))
      (pe_lst (pa_cons (pe_bm PySem.F.plainAttrs_list PySem.F.slot_list_count PySem.F.type_list_count Cnt.mt_countF (pv 0) (pa_cons pe_non pa_nil)) pa_nil)))), ?_⟩
    refine ⟨.ref t, rfl, t, rfl, ⟨_, sqt⟩, fun D nD => ?_⟩
    refine lc_tup (K := K) (a := t) (xs := ws.map V.str) (Grow H D (fil ws (fun _ => true) (fun z => V.int ((as.countP fun a => decide (a = some z) : Nat) : Int)))) (grow0 nD fil0) (fun i H' _ g => (Ky.of g.1).sqT sqt) (fun i x H' hx g => ?_) (fun H' g => ?_)
    · rw [List.getElem?_map] at hx
      cases ez : ws[i]? with
      | none =>
        rw [ez] at hx
        cases hx
      | some z =>
        rw [ez] at hx
        cases hx
        have sqa2 := (Ky.of g.1).sqL sqa
        refine ⟨rfl, .ref a, rfl, .inl ⟨rfl, _, sqa2⟩, .str z, rfl, a, _, .str z, rfl, rfl, sqa2, rfl, ans_flat as, ?_⟩
        rw [cnt_str]
        exact put nD g (Same.refl _) (Nat.lt_of_le_of_lt fil_len (small1000 (by omega))) (fil_yes ez rfl)
    · have g2 := g.2
      rw [fil_all (by rw [List.length_map]; exact Nat.le_refl _), List.filter_eq_self.mpr (fun _ _ => rfl)] at g2
      have sqa2 := (Ky.of g.1).sqL sqa
      refine ⟨.ref a, rfl, .inl ⟨rfl, _, sqa2⟩, a, _, .non, rfl, rfl, sqa2, rfl, ans_flat as, ?_⟩
      rw [cnt_non]
      refine ⟨(by show 1 ≤ sizeLine; decide), fun L nL => ?_⟩
      have sL := same_upd nL (o := .lst [V.int ((as.countP fun a => a.isNone : Nat) : Int)])
      refine ⟨D, L, _, _, rfl, rfl, sL _ _ g2, upd_same, ?_, fun p np => ?_⟩
      · rw [List.length_map]
        exact Nat.le_of_lt (small1000 (by simp; omega))
      · refine q _ p ((g.1.trans sL).trans (same_upd np)) ?_ upd_same
        cases hn : H p with
        | none => rfl
        | some o =>
          rw [(g.1.trans sL) _ _ hn] at np
          cases np
end
end Cv
set_option Elab.async false
set_option linter.all false
set_option maxRecDepth 100000
set_option maxHeartbeats 1000000
namespace Ex
open PySem PySem.Spec PyProof.Rows L2
/-- a comprehension over enumerate of a tuple -/
theorem lc_enumT {K : PySem.W.Frag} {a : Addr} {xs : List V} {g : TG} {tt : TT} {te : TE} {vs : List Nat} {σ : L2.St} {H1 : Hp} {D : Addr} {Qd : Hp → Prop} (Pv : Nat → Hp → Prop) (h0 : Pv 0 (upd H1 D (.lst []))) (hl : ∀ i H, i ≤ xs.length → Pv i H → SqT K H a xs)
    (hs : ∀ i x H T, xs[i]? = some x → Pv i H → H T = none → g (.ref T) (wipe σ vs) (upd H T (.tup [.int (i : Nat), x])) fun σ2 H2 => wipe σ2 vs = wipe σ vs ∧ tt σ2 H2 fun b H3 =>
      if b = true then te σ2 H3 fun y H4 => ∃ acc, H4 D = some (.lst acc) ∧ acc.length < sizeLine ∧ Pv (i + 1) (upd H4 D (.lst (acc ++ [y]))) else Pv (i + 1) H3) (hd : ∀ H, Pv xs.length H → Qd H) :
    ∃ W : Nat → Nat → Hp → Prop, (∃ m, W 0 m (upd H1 D (.lst []))) ∧ ∀ i m H, W i m H →
      ((Itet K a).stop i H ∧ Qd H) ∨ ((Itet K a).go i H ∧ ∃ Nx : Hp → Prop, (∀ H', Nx H' → ∃ m', m' < m ∧ W (i + 1) m' H') ∧ ∀ x H', (Itet K a).yld i H x H' → g x (wipe σ vs) H' fun σ2 H2 => wipe σ2 vs = wipe σ vs ∧ tt σ2 H2 fun b H3 =>
        if b = true then te σ2 H3 fun y H4 => ∃ acc, H4 D = some (.lst acc) ∧ acc.length < sizeLine ∧ Nx (upd H4 D (.lst (acc ++ [y]))) else Nx H3) := by
  refine ⟨fun i m H => m = xs.length - i ∧ i ≤ xs.length ∧ Pv i H, ⟨xs.length, by simp, Nat.zero_le _, h0⟩, ?_⟩
  rintro i m H ⟨rfl, hi, p⟩
  have q := hl i H hi p
  by_cases lt : i < xs.length
  · refine .inr ⟨⟨xs, xs[i], q, by simp [lt]⟩, Pv (i + 1), fun H' p' => ⟨xs.length - (i + 1), by omega, rfl, lt, p'⟩, fun x H' y => ?_⟩
    obtain ⟨T, z, rfl, hT, rfl, y⟩ := y
    exact hs i z H T (y xs q) p hT
  · obtain rfl : i = xs.length := by omega
    exact .inl ⟨⟨xs, q, Nat.le_refl _⟩, hd H p⟩
end Ex
namespace Cv
open PySem PySem.Spec PyProof.Rows L2
/-! ### a book told wholly -/
abbrev Rec : Type := List (Option Str) × Int
def RecP (K : PySem.W.Frag) (ss : List (Str × List Str)) (H : Hp) (x : V) (r : Rec) : Prop := ∃ a, x = .ref a ∧ SqT K H a (r.1.map ansV ++ [.int r.2]) ∧ RecA ss r.1 r.2
theorem RecP.ky {K : PySem.W.Frag} {ss : List (Str × List Str)} {H H' : Hp} {x : V} {r : Rec} (h : RecP K ss H x r) (k : Ky H H') : RecP K ss H' x r := by
  obtain ⟨a, e, h1, h2⟩ := h
  exact ⟨a, e, k.sqT h1, h2⟩
theorem recs_of {K : PySem.W.Frag} {ss : List (Str × List Str)} {H : Hp} : ∀ {xs : List V}, (∀ x ∈ xs, RecV K ss H x) → ∃ rs, Paired (RecP K ss H) xs rs
  | [], _ => ⟨[], .nil⟩
  | x :: xs, h => by
    obtain ⟨a, as, m, e, h1, h2⟩ := h x List.mem_cons_self
    obtain ⟨rs, hrs⟩ := recs_of fun y hy => h y (List.mem_cons_of_mem _ hy)
    exact ⟨(as, m) :: rs, .cons ⟨a, e, h1, h2⟩ hrs⟩
def bookD (rs : List Rec) : PyData := .list (rs.map fun r => recD r.1 r.2)
theorem recs_dp {K : PySem.W.Frag} {ss : List (Str × List Str)} {H : Hp} : ∀ {xs : List V} {rs : List Rec}, Paired (RecP K ss H) xs rs → DpAll K H xs (rs.map fun r => recD r.1 r.2)
  | _, _, .nil => .nil
  | _, _, .cons h t => by
    obtain ⟨a, e, h1, _⟩ := h
    subst e
    exact .cons (.tup h1 (ans_dp _)) (recs_dp t)
theorem recs_ok {K : PySem.W.Frag} {ss : List (Str × List Str)} {H : Hp} : ∀ {xs : List V} {rs : List Rec}, Paired (RecP K ss H) xs rs → ∀ r ∈ rs, RecA ss r.1 r.2
  | _, _, .nil, _, h => absurd h List.not_mem_nil
  | _, _, .cons h t, r, hr => by
    rcases List.mem_cons.mp hr with hr | hr
    · rw [hr]
      obtain ⟨_, _, _, h2⟩ := h
      exact h2
    · exact recs_ok t r hr
theorem book_ok {ss : List (Str × List Str)} {rs : List Rec} (gp : GoodP ss) (h : ∀ r ∈ rs, RecA ss r.1 r.2) (l : rs.length ≤ 60) : bookWrong ss (bookD rs) = .none ∧ pl (bookD rs) = true ∧ wt (bookD rs) ≤ 40000 := by
  refine ⟨?_, ?_, ?_⟩
  · show (if (rs.map fun r => recD r.1 r.2).length ≤ 60 then _ else _) = _
    have e1 : firstK (rs.map fun r => recD r.1 r.2).length (badRec ss (rs.map fun r => recD r.1 r.2)) = none := firstK_none fun k hk => by
      rw [List.length_map] at hk
      unfold badRec
      rw [List.getD_eq_getElem?_getD, List.getElem?_map, List.getElem?_eq_getElem hk]
      show (!isNon (recWrong ss (recD rs[k].1 rs[k].2))) = false
      rw [(rec_ok gp (h _ (List.getElem_mem hk))).1]
      rfl
    rw [if_pos (by rw [List.length_map]; exact l), e1]
  · unfold bookD
    rw [pl]
    refine pls_of fun d hd => ?_
    obtain ⟨r, hr, rfl⟩ := List.mem_map.mp hd
    exact (rec_ok gp (h r hr)).2.1
  · have w := wts_of (n := 500) (ds := rs.map fun r => recD r.1 r.2) fun d hd => by
      obtain ⟨r, hr, rfl⟩ := List.mem_map.mp hd
      exact (rec_ok gp (h r hr)).2.2
    rw [List.length_map] at w
    have w2 : rs.length * (500 + 2) ≤ 60 * 502 := Nat.mul_le_mul_right _ l
    unfold bookD
    rw [wt]
    omega
def col (rs : List Rec) (k : Nat) : List (Option Str) := rs.map fun r => r.1.getD k none
/-- the lists told at D: for each sort one of its own -/
def Lots (ss : List (Str × List Str)) (rs : List Rec) (H H' : Hp) (D : Addr) (ls : List Addr) : Prop := ∀ j l, ls[j]? = some l → Fresh H l ∧ l ≠ D ∧ H' l = some (.lst (tallyV (col rs j) (ss.getD j ("", [])).2))
abbrev sTs : Stmt := topS 37
abbrev nTs : List Str := ["plan", "book", "k", "name", "codes", "record"]
theorem scTs : FnScope nTs ["plan", "book"] (defScope sTs) := ⟨rfl, rfl, rfl, by decide +kernel, rfl, by decide +kernel, by decide +kernel⟩
def spTs (K : PySem.W.Frag) (P1 P2 : Addr) : Sp := fun vs H Q _ => ∃ (pn : V) (l : Addr) (ss : List (Str × List Str)) (xs : List V) (rs : List Rec), vs = [pn, .ref l] ∧ Dp K H pn (planD ss) ∧ GoodP ss ∧ SqL K H l xs ∧ Paired (RecP K ss H) xs rs ∧ rs.length ≤ 60 ∧ Tabs P1 P2 H ∧
  ∀ H' D ls, Tx P1 P2 H H' → Fresh H D → H' D = some (.lst (ls.map V.ref)) → ls.length = ss.length → Lots ss rs H H' D ls → Q (.ref D) H'
section
variable {P : Program} {w : World} {K : PySem.W.Frag} {mg : Str → Option Value} {base : Heap}
theorem ok_ts {f fN fR fT C CR P1 P2 : Addr} {fd fdN fdR fdT : FuncData} {k : Nat} (F : Fun K "tallies" "tallies" sTs f fd) (N : At P w K mg base (CX P w) k "need_plan" fN fdN ["plan"] (spNp C K P1 P2)) (R : At P w K mg base (CX P w) k "need_book" fR fdR ["plan", "book"] (spNd bookWrong CR K)) (Ta : At P w K mg base CX0 k "tally" fT fdT ["answers", "codes"] (spTa K)) (me : mg "enumerate" = none) : FnOk P w K mg base (CX P w) (k + 1) f fd ["plan", "book"] (spTs K P1 P2) := by
  refine F.okX scTs (fun vs H Q E h => ?_) (fun cdv A outer s H vs Q E hr h => ?_)
  · obtain ⟨pn, l, ss, xs, rs, rfl, _⟩ := h
    rfl
  · obtain ⟨pn, l, ss, xs, rs, rfl, hp, gp, sq, prd, l60, ht, q⟩ := h
    refine ⟨_, pss_cons (ps_expr (pe_call N.ok hr (by rfl) N.g N.kp N.b .nil passF (pa_cons (pv 0) pa_nil)))
      (pss_cons (ps_expr (pe_call R.ok hr (by rfl) R.g R.kp R.b .nil passF (pa_cons (pv 0) (pa_cons (pv 1) pa_nil))))
      (pss_one (ps_ret (pe_lc (own := [("k", 2), ("name", 3), ("codes", 4)]) (g := gTup K 2 (gCons (gName 2) (gCons (gTup K 2 (gCons (gName 3) (gCons (gName 4) gNil))) gNil))) (tt := tYes) (te := tCall (spTa K) [] (fun _ _ _ => False) (tCons (tLc (iList K (tVar 1)) (gName 5) tYes (tOp (rIxT K) (tVar 5) (tVar 2)) [5]) (tCons (tVar 4) tNil))) (by rfl) scTs.nd (Ex.pi_enumT (by rfl) me (pa_cons (pv 0) pa_nil))
        (blkOk_by (own := [("k", 2), ("name", 3), ("codes", 4)]) (N := nTs) (sc := defScope sTs) (by decide +kernel))
        (fun _ _ _ _ _ => pg_tup rfl (pgs_cons (pg_name (i := 2) scTs.nd rfl (Or.inr rfl)) (pgs_cons (pg_tup rfl (pgs_cons (pg_name (i := 3) scTs.nd rfl (Or.inl rfl)) (pgs_cons (pg_name (i := 4) scTs.nd rfl (Or.inl rfl)) pgs_nil))) pgs_nil)))
        (fun _ _ _ _ _ => pts_nil)
        (fun _ _ _ _ _ => pe_call Ta.ok hr (by rfl) Ta.g Ta.kp Ta.b .nil pass0 (pa_cons (pe_lc (own := [("record", 5)]) (g := gName 5) (tt := tYes) (te := tOp (rIxT K) (tVar 5) (tVar 2)) (by rfl) scTs.nd (pi_list (pv 1)) (blkOk_by (by rfl)) (fun _ _ _ _ _ => pg_name (i := 5) scTs.nd rfl (Or.inl rfl)) (fun _ _ _ _ _ => pts_nil) (fun _ _ _ _ _ => pe_ix ix_tup (pv 5) (pv 2) (fun _ _ => rfl))) (pa_cons (pv 4) pa_nil))))))), ?_⟩
    have e := good_plan gp
    have wp := (plan_wt gp).1
    have lr : xs.length = rs.length := paired_len prd
    obtain ⟨e1, e2, e3⟩ := book_ok gp (recs_ok prd) l60
    have hd : Dp K H (.ref l) (bookD rs) := .lst sq (recs_dp prd)
    refine ⟨pn, rfl, pn, planD ss, rfl, hp, by omega, ht, fun _ H1 x1 => ?_, fun z => absurd e z⟩
    refine ⟨pn, rfl, .ref l, rfl, pn, .ref l, ss, bookD rs, rfl, x1.2.dp _ _ hp, gp, x1.2.dp _ _ hd, e2, fun _ H2 s2 => ?_, fun z => absurd e1 z⟩
    have x2 := x1.trans (.of x1.1 s2)
    obtain ⟨t, ys, rfl, sqp, hys⟩ := dp_tup (x2.2.dp _ _ hp)
    have lx : ys.length = ss.length := by
      have := dpAll_len hys
      rw [List.length_map] at this
      exact this
    have sq2 := x2.2.sqL sq
    have prd2 : Paired (RecP K ss H2) xs rs := paired_map (fun _ _ h => h.ky x2.2) prd
    have g4 := gp.2.1
    refine ⟨.ref t, rfl, t, ys, rfl, sqp, fun D nD => ?_⟩
    refine Ex.lc_enumT (K := K) (a := t) (xs := ys) (fun i H' => ∃ ls : List Addr, Same H2 H' ∧ H' D = some (.lst (ls.map V.ref)) ∧ ls.length = i ∧ ∀ j l, ls[j]? = some l → H2 l = none ∧ l ≠ D ∧ H' l = some (.lst (tallyV (col rs j) (ss.getD j ("", [])).2)))
      ⟨[], same_upd nD, upd_same, rfl, fun j l e => by simp at e⟩ (fun i H' _ h => ?_) (fun i x H' T hx h hT => ?_) (fun H' h => ?_)
    · obtain ⟨_, s3, _⟩ := h
      exact (Ky.of s3).sqT sqp
    · obtain ⟨ls, s3, hD, hl, hls⟩ := h
      have s4 : Same H' (upd H' T (.tup [.int (i : Nat), x])) := same_upd hT
      have s34 := s3.trans s4
      obtain ⟨dx, ex, hdx⟩ := dpAll_get ((Ky.of s34).dpAll _ ys hys) hx
      have hi : i < ss.length := by
        have := (List.getElem?_eq_some_iff.mp hx).1
        omega
      rw [List.getElem?_map, List.getElem?_eq_getElem hi] at ex
      have ex2 : sortD ss[i] = dx := Option.some.inj ex
      rw [← ex2] at hdx
      obtain ⟨a, b, rfl, sqa, sqb⟩ := sort_val hdx
      have gi := gp.2.2.2 _ (List.getElem_mem hi)
      have gs : ss.getD i ("", []) = ss[i] := by
        rw [List.getD_eq_getElem?_getD, List.getElem?_eq_getElem hi]
        rfl
      refine ⟨T, _, rfl, SqT.of upd_same, rfl, _, _, rfl, _, _, rfl, a, _, rfl, sqa, rfl, _, _, rfl, _, _, rfl, rfl, rfl, rfl, ?_⟩
      generalize hH3 : upd H' T (.tup [.int (i : Nat), .ref a]) = H3 at s4 s34 sqa sqb
      have sq3 := (Ky.of s34).sqL sq2
      refine ⟨.ref l, rfl, l, rfl, ⟨_, sq3⟩, fun D2 nD2 => ?_⟩
      refine lc_list (K := K) (a := l) (xs := xs) (Grow H3 D2 (fil rs (fun _ => true) (fun r => ansV (r.1.getD i none)))) (grow0 nD2 fil0) (fun j H5 _ g => (Ky.of g.1).sqL sq3) (fun j y H5 hy g => ?_) (fun H5 g => ?_)
      · obtain ⟨r, er, ar, rfl, sqr, rr⟩ := paired_get prd2 hy
        have hi2 : i < r.1.length := by
          rw [rr.1]
          exact hi
        refine ⟨rfl, .ref ar, rfl, .int (i : Nat), rfl, ar, _, _, _, rfl, rfl, (Ky.of (s34.trans g.1)).sqT sqr, ans_at hi2, put nD2 g (Same.refl _) (Nat.lt_of_le_of_lt fil_len (small1000 (by omega))) (fil_yes er rfl)⟩
      · have g2 := g.2
        rw [fil_all (by omega), List.filter_eq_self.mpr (fun _ _ => rfl), show rs.map (fun r => ansV (r.1.getD i none)) = (col rs i).map ansV by unfold col; rw [List.map_map]; rfl] at g2
        refine ⟨.ref b, rfl, D2, b, col rs i, ss[i].2, rfl, SqL.of g2, (Ky.of g.1).sqT sqb, gi.2.2.2.2.1, fun H6 p s6 np hp6 => ?_⟩
        have s36 := (s4.trans g.1).trans s6
        have hD6 := s36 _ _ hD
        have nDp : p ≠ D := fun z => by
          rw [z, (s4.trans g.1) _ _ hD] at np
          cases np
        have np2 : H2 p = none := by
          cases hn : H2 p with
          | none => rfl
          | some o =>
            rw [(s34.trans g.1) _ _ hn] at np
            cases np
        refine ⟨_, hD6, by rw [List.length_map]; exact small1000 (by omega), ls ++ [p], fun b' o' e' => ?_, by rw [upd_same, List.map_append]; rfl, by rw [List.length_append, hl]; rfl, fun j l' ej => ?_⟩
        · rw [upd_ne (ne_of_none e' nD)]
          exact s36 _ _ (s3 _ _ e')
        · by_cases hj : j < ls.length
          · rw [List.getElem?_append_left hj] at ej
            obtain ⟨h1, h2, h3⟩ := hls j l' ej
            exact ⟨h1, h2, by rw [upd_ne h2]; exact s36 _ _ h3⟩
          · rw [List.getElem?_append_right (by omega)] at ej
            have ej0 : j - ls.length = 0 := by
              cases hc : j - ls.length with
              | zero => rfl
              | succ n =>
                rw [hc] at ej
                simp at ej
            rw [ej0] at ej
            have e1 : p = l' := by simpa using ej
            have e2 : j = i := by omega
            rw [← e1, e2, gs]
            exact ⟨np2, nDp, by rw [upd_ne nDp]; exact hp6⟩
    · obtain ⟨ls, s3, hD, hl, hls⟩ := h
      exact q _ D ls (x2.trans (.of x2.1 s3)) ((Fresh.of nD).ky x2.2) hD (by omega) fun j l' ej => ⟨(Fresh.of (hls j l' ej).1).ky x2.2, (hls j l' ej).2⟩
end
end Cv
set_option Elab.async false
set_option linter.all false
set_option maxRecDepth 100000
set_option maxHeartbeats 1000000
namespace Cv
open PySem PySem.Spec PyProof.Rows L2
/-! ### codes of a plan -/
def areCodes (ss : List (Str × List Str)) : PyData → Bool
  | .tuple ds => decide (ds.length = ss.length) && (firstK ss.length (badCode ss ds)).isNone
  | _ => false
abbrev sAc : Stmt := topS 32
theorem scAc : FnScope ["plan", "thing"] ["plan", "thing"] (defScope sAc) := ⟨rfl, rfl, rfl, by decide +kernel, rfl, by decide +kernel, by decide +kernel⟩
def spAc (K : PySem.W.Frag) : Sp := fun vs H Q _ => ∃ (pn tv : V) (ss : List (Str × List Str)) (d : PyData), vs = [pn, tv] ∧ Dp K H pn (planD ss) ∧ GoodP ss ∧ Dp K H tv d ∧ pl d = true ∧ ∀ H', Same H H' → Q (.bl (areCodes ss d)) H'
/-! ### fits -/
def fitAt (as cs : List (Option Str)) (j : Nat) : Bool := (cs.getD j none).isNone || decide (as.getD j none = cs.getD j none)
def fitsB (cs as : List (Option Str)) : Bool := (List.range cs.length).all (fitAt as cs)
theorem ans_eq (a b : Option Str) : decide (ansV a = ansV b) = decide (a = b) := by
  cases a <;> cases b <;> simp [ansV]
theorem ans_scal (a b : Option Str) : scal (ansV a) (ansV b) = true := by
  cases a <;> cases b <;> rfl
theorem ans_get {cs : List (Option Str)} {j : Nat} {x : V} (h : (cs.map ansV)[j]? = some x) : x = ansV (cs.getD j none) := by
  rw [List.getElem?_map] at h
  rw [List.getD_eq_getElem?_getD]
  cases e : cs[j]? with
  | none =>
    rw [e] at h
    cases h
  | some a =>
    rw [e] at h
    exact (Option.some.inj h).symm
abbrev sFt : Stmt := topS 38
abbrev nFt : List Str := ["record", "codes", "k", "code"]
theorem scFt : FnScope nFt ["record", "codes"] (defScope sFt) := ⟨rfl, rfl, rfl, by decide +kernel, rfl, by decide +kernel, by decide +kernel⟩
abbrev gFt : Scope := genScope (retOf ((defBody sFt).getD 0 (.Pass ⟨0, 0, 0, 0⟩)))
theorem gnFt : Gx.GenN nFt (defScope sFt) gFt [("k", 2), ("code", 3)] := ⟨rfl, rfl, by decide +kernel, rfl, by decide +kernel, by decide +kernel, by decide +kernel, by decide +kernel⟩
def spFt (K : PySem.W.Frag) (P3 : Addr) : Sp := fun vs H Q _ => ∃ (r t : Addr) (as cs : List (Option Str)) (m : Int), vs = [.ref r, .ref t] ∧ SqT K H r (as.map ansV ++ [.int m]) ∧ SqT K H t (cs.map ansV) ∧ cs.length = as.length ∧ GxR.TabG H P3 ∧ ∀ H', Ky H H' → Q (.bl (fitsB cs as)) H'
theorem ky_tab {P : Addr} {H H' : Hp} (h : GxR.TabG H P) (t : GxR.Tabbed P H H') : Ky H H' := ⟨fun a o n e => by
  rw [t.2 a (tab_ne h n e)]
  exact e, tab_stay t⟩
section
variable {P : Program} {w : World} {K : PySem.W.Frag} {mg : Str → Option Value} {base : Heap}
theorem ok_ac {f fT fN : Addr} {fd fdT fdN : FuncData} {k : Nat} (F : Fun K "are_codes" "are_codes" sAc f fd) (Tf : At P w K mg base CX0 k "is_tuple_of" fT fdT ["thing", "many"] (spTf K)) (Fn : At P w K mg base CX0 k "first_no_code" fN fdN ["plan", "things"] (spFn K)) (ml : mg "len" = none) : FnOk P w K mg base CX0 (k + 1) f fd ["plan", "thing"] (spAc K) := by
  refine F.ok scAc (fun vs H Q E h => ?_) (fun cdv A outer s H vs Q E hr h => ?_)
  · obtain ⟨pn, tv, ss, d, rfl, _⟩ := h
    rfl
  · obtain ⟨pn, tv, ss, d, rfl, hp, gp, hd, hpl, q⟩ := h
    refine ⟨_, pss_cons (ps_if (pt_not (pt_val (pe_call Tf.ok hr (by rfl) Tf.g Tf.kp Tf.b .nil pass0 (pa_cons (pv 1) (pa_cons (pe_callB call_len_seq (by rfl) ml PySem.boot_len (pa_cons (pv 0) pa_nil)) pa_nil))))) (pss_one (ps_ret pe_bl)) pss_nil)
      (pss_one (ps_ret (pe_cmpR op_isN (pe_call Fn.ok hr (by rfl) Fn.g Fn.kp Fn.b .nil pass0 (pa_cons (pv 0) (pa_cons (pv 1) pa_nil))) pe_non rfl))), ?_⟩
    obtain ⟨t, xs, rfl, sqp, hxs⟩ := dp_tup hp
    have lx : xs.length = ss.length := by
      have := dpAll_len hxs
      rw [List.length_map] at this
      exact this
    refine ⟨tv, rfl, .ref t, rfl, t, xs, rfl, .inr sqp, tv, _, d, rfl, hd, _, rfl, ?_⟩
    rw [lx]
    refine ite2 (fun e => ?_) (fun e => ?_)
    · have e2 : isTof (ss.length : Int) d = false := by simpa using e
      have e3 : areCodes ss d = false := by
        cases d with
        | tuple ds =>
          have e4 := of_decide_eq_false (show decide ((ds.length : Int) = (ss.length : Int)) = false from e2)
          show (decide (ds.length = ss.length) && _) = false
          rw [decide_eq_false (by omega), Bool.false_and]
        | _ => rfl
      have q2 := q H (Same.refl _)
      rw [e3] at q2
      exact q2
    · have e2 : isTof (ss.length : Int) d = true := by simpa using e
      have e0 : isT d = true := by
        cases d with
        | tuple ds => rfl
        | _ => cases e2
      obtain ⟨ds, rfl⟩ := tup_of e0
      have ld : ds.length = ss.length := by
        have := of_decide_eq_true (show decide ((ds.length : Int) = (ss.length : Int)) = true from e2)
        omega
      have hpls : pls ds = true := by simpa only [pl] using hpl
      refine ⟨.ref t, rfl, tv, rfl, .ref t, tv, ss, ds, rfl, hp, gp, hd, by omega, hpls, fun H1 s1 => ⟨rfl, ?_⟩⟩
      have e3 : decide (optV (firstK ss.length (badCode ss ds)) = V.non) = areCodes ss (.tuple ds) := by
        show _ = (decide (ds.length = ss.length) && (firstK ss.length (badCode ss ds)).isNone)
        rw [decide_eq_true ld, Bool.true_and]
        cases firstK ss.length (badCode ss ds) with
        | none => rfl
        | some n => exact decide_eq_false (fun z => nomatch z)
      rw [e3]
      exact q _ s1
theorem ok_ft {f c P3 : Addr} {fd : FuncData} {k : Nat} (F : FunC K "fits" "fits" sFt f c fd) (TB : GxR.TabB base mg c P3) (ma : mg "all" = none) (me : mg "enumerate" = none) : FnOk P w K mg base CX0 (k + 2) f fd ["record", "codes"] (spFt K P3) := by
  refine F.ok scFt (fun vs H Q E h => ?_) (fun A outer s H vs Q E hr h => ?_)
  · obtain ⟨r, t, as, cs, m, rfl, _⟩ := h
    rfl
  · obtain ⟨r, t, as, cs, m, rfl, sqr, sqt, hl, ht, q⟩ := h
    refine ⟨_, pss_one (ps_ret (Gx.pe_allG (own := [("k", 2), ("code", 3)]) (gt := gTup K 2 (gCons (gName 2) (gCons (gName 3) gNil))) (te := tOrV (tOp (fun x y H Q => y = .non ∧ Q (.bl (decide (x = .non))) H) (tVar 3) (tC .non)) (tOp rEq (tOp (rIxT K) (tVar 0) (tVar 2)) (tVar 3))) hr (by rfl) ma (by decide +kernel) TB rfl (scope := gFt) gnFt scFt.nd (Ex.pi_enumT (by rfl) me (pa_cons (pv 1) pa_nil))
        (fun _ _ _ _ _ _ => pg_tup rfl (pgs_cons (pg_name (i := 2) scFt.nd rfl (Or.inl rfl)) (pgs_cons (pg_name (i := 3) scFt.nd rfl (Or.inl rfl)) pgs_nil)))
        (fun _ _ _ _ _ _ hr' => pe_or (pe_cmpR op_isN (pv 3) pe_non rfl) (pe_one (pe_cmpR op_eq (pe_ix ix_tup (pv 0) (pv 2) (fun _ _ => rfl)) (pv 3) (nomark _)))) (fun _ => rfl))), ?_⟩
    refine ⟨.ref t, rfl, t, _, rfl, sqt, ht, cs.length, fitAt as cs, fun j σ' H' => (∃ y2 y3, σ' = [some (.ref r), some (.ref t), y2, y3]) ∧ Ky H H', fun H2 tb => ⟨⟨none, none, rfl⟩, ky_tab ht tb⟩, fun j σ' H' hj W => ?_, fun σ' H' W => ?_, fun j σ' H' W => q _ W.2⟩
    · obtain ⟨⟨y2, y3, rfl⟩, ky⟩ := W
      have sqt' := ky.sqT sqt
      have hj' : j < (cs.map ansV).length := by
        rw [List.length_map]
        exact hj
      refine ⟨⟨_, (cs.map ansV)[j], sqt', List.getElem?_eq_getElem hj'⟩, fun v H2 yy => ?_⟩
      obtain ⟨T, z, rfl, hT, rfl, yy⟩ := yy
      have ez := ans_get (yy _ sqt')
      have ky2 := ky.trans (Ky.of (same_upd hT (o := .tup [.int (j : Nat), z])))
      refine ⟨T, _, rfl, SqT.of upd_same, rfl, _, _, rfl, _, _, rfl, rfl, ?_⟩
      have d0 : decide (z = V.non) = (cs.getD j none).isNone := by
        rw [ez, ans_non]
      refine ⟨_, rfl, rfl, _, rfl, ite2 (fun e => ?_) (fun e => ?_)⟩
      · refine ⟨?_, ⟨_, _, rfl⟩, ky2⟩
        have e2 : (cs.getD j none).isNone = true := d0.symm.trans e
        unfold fitAt
        rw [e2, Bool.true_or]
      · refine ⟨.ref r, rfl, .int (j : Nat), rfl, r, _, _, _, rfl, rfl, ky2.sqT sqr, ans_at (by omega), z, rfl, by rw [ez]; exact ans_scal _ _, ?_, ⟨_, _, rfl⟩, ky2⟩
        have e2 : (cs.getD j none).isNone = false := Bool.eq_false_iff.mpr fun y => e (d0.trans y)
        show V.bl (decide (ansV (as.getD j none) = z)) = V.bl ((cs.getD j none).isNone || decide (as.getD j none = cs.getD j none))
        rw [e2, Bool.false_or, ez, ans_eq]
    · exact ⟨_, W.2.sqT sqt, by rw [List.length_map]; exact Nat.le_refl _⟩
end
end Cv
set_option Elab.async false
set_option linter.all false
set_option maxRecDepth 100000
set_option maxHeartbeats 1000000
namespace Cv
open PySem PySem.Spec PyProof.Rows L2
/-! ### the places of the records that have the codes -/
def fitP (rs : List Rec) (cs : List (Option Str)) (i : Nat) : Bool := fitsB cs (rs.getD i ([], 0)).1
def fitV (rs : List Rec) (cs : List (Option Str)) : List V := ((List.range rs.length).filter (fitP rs cs)).map fun i => V.int (i : Nat)
abbrev sFg : Stmt := topS 39
abbrev nFg : List Str := ["plan", "book", "codes", "i", "record"]
theorem scFg : FnScope nFg ["plan", "book", "codes"] (defScope sFg) := ⟨rfl, rfl, rfl, by decide +kernel, rfl, by decide +kernel, by decide +kernel⟩
def spFg (C : Addr) (K : PySem.W.Frag) (P1 P2 P3 : Addr) : Sp := fun vs H Q E => ∃ (pn tv : V) (l : Addr) (ss : List (Str × List Str)) (xs : List V) (rs : List Rec) (d : PyData), vs = [pn, .ref l, tv] ∧ Dp K H pn (planD ss) ∧ GoodP ss ∧ SqL K H l xs ∧ Paired (RecP K ss H) xs rs ∧ rs.length ≤ 60 ∧ Dp K H tv d ∧ pl d = true ∧ Tabs P1 P2 H ∧ GxR.TabG H P3 ∧
  ((areCodes ss d = false ∧ ∀ H', Tx P1 P2 H H' → E (.ref C) none H') ∨
   (areCodes ss d = true ∧ ∃ t cs, tv = .ref t ∧ SqT K H t (cs.map ansV) ∧ cs.length = ss.length ∧ ∀ H' D, Tx P1 P2 H H' → Fresh H D → H' D = some (.lst (fitV rs cs)) → Q (.ref D) H'))
theorem Tabs.ky {P1 P2 : Addr} {H H' : Hp} (h : Tabs P1 P2 H) (k : Ky H H') : Tabs P1 P2 H' := ⟨k.tb _ h.1, k.tb _ h.2⟩
section
variable {P : Program} {w : World} {K : PySem.W.Frag} {mg : Str → Option Value} {base : Heap}
theorem ok_fg {f fN fR fC fT C0 CR C P1 P2 P3 : Addr} {fd fdN fdR fdC fdT : FuncData} {k : Nat} (F : Fun K "fitting" "fitting" sFg f fd) (N : At P w K mg base (CX P w) k "need_plan" fN fdN ["plan"] (spNp C0 K P1 P2)) (R : At P w K mg base (CX P w) k "need_book" fR fdR ["plan", "book"] (spNd bookWrong CR K))
    (Ac : At P w K mg base CX0 k "are_codes" fC fdC ["plan", "thing"] (spAc K)) (Ft : At P w K mg base CX0 k "fits" fT fdT ["record", "codes"] (spFt K P3)) (X : OwnX K mg "NoCodes" C) (me : mg "enumerate" = none) : FnOk P w K mg base (CX P w) (k + 1) f fd ["plan", "book", "codes"] (spFg C K P1 P2 P3) := by
  refine F.okX scFg (fun vs H Q E h => ?_) (fun cdv A outer s H vs Q E hr h => ?_)
  · obtain ⟨pn, tv, l, ss, xs, rs, d, rfl, _⟩ := h
    rfl
  · obtain ⟨pn, tv, l, ss, xs, rs, d, rfl, hp, gp, sq, prd, l60, hdt, hpl, ht, ht3, q⟩ := h
    refine ⟨_, pss_cons (ps_expr (pe_call N.ok hr (by rfl) N.g N.kp N.b .nil passF (pa_cons (pv 0) pa_nil)))
      (pss_cons (ps_expr (pe_call R.ok hr (by rfl) R.g R.kp R.b .nil passF (pa_cons (pv 0) (pa_cons (pv 1) pa_nil))))
      (pss_cons (ps_if (pt_not (pt_val (pe_call Ac.ok hr (by rfl) Ac.g Ac.kp Ac.b .nil pass0 (pa_cons (pv 0) (pa_cons (pv 2) pa_nil)))))
        (pss_one (ps_raise rfl (takes_of rfl rfl rfl rfl) (pmk_own PySem.F.excBase_ValueError X.x X.g X.k (raises_own X.b X.t) (by rfl)))) pss_nil)
      (pss_one (ps_ret (pe_lc (own := [("i", 3), ("record", 4)]) (g := gTup K 2 (gCons (gName 3) (gCons (gName 4) gNil))) (tt := tB (tCall (spFt K P3) [] (fun _ _ _ => False) (tCons (tVar 4) (tCons (tVar 2) tNil)))) (te := tVar 3) (by rfl) scFg.nd (pi_enum (by rfl) me (pa_cons (pv 1) pa_nil))
        (blkOk_by (own := [("i", 3), ("record", 4)]) (N := nFg) (sc := defScope sFg) (by decide +kernel))
        (fun _ _ _ _ _ => pg_tup rfl (pgs_cons (pg_name (i := 3) scFg.nd rfl (Or.inl rfl)) (pgs_cons (pg_name (i := 4) scFg.nd rfl (Or.inl rfl)) pgs_nil)))
        (fun _ _ _ _ _ => pts_one (pt_val (pe_call Ft.ok hr (by rfl) Ft.g Ft.kp Ft.b .nil pass0 (pa_cons (pv 4) (pa_cons (pv 2) pa_nil)))))
        (fun _ _ _ _ _ => pv 3)))))), ?_⟩
    have e := good_plan gp
    have wp := (plan_wt gp).1
    have lr : xs.length = rs.length := paired_len prd
    obtain ⟨e1, e2, e3⟩ := book_ok gp (recs_ok prd) l60
    have hd : Dp K H (.ref l) (bookD rs) := .lst sq (recs_dp prd)
    refine ⟨pn, rfl, pn, planD ss, rfl, hp, by omega, ht, fun _ H1 x1 => ?_, fun z => absurd e z⟩
    refine ⟨pn, rfl, .ref l, rfl, pn, .ref l, ss, bookD rs, rfl, x1.2.dp _ _ hp, gp, x1.2.dp _ _ hd, e2, fun _ H2 s2 => ?_, fun z => absurd e1 z⟩
    have x2 := x1.trans (.of x1.1 s2)
    refine ⟨pn, rfl, tv, rfl, pn, tv, ss, d, rfl, x2.2.dp _ _ hp, gp, x2.2.dp _ _ hdt, hpl, fun H3 s3 => ⟨_, rfl, ?_⟩⟩
    have x3 := x2.trans (.of x2.1 s3)
    rcases q with ⟨ea, q⟩ | ⟨ea, t, cs, rfl, sqt, lc, q⟩
    · rw [ea]
      refine ite2 (fun _ => q H3 x3) (fun z => absurd rfl z)
    · rw [ea]
      refine ite2 (fun z => absurd z (by decide)) (fun _ => ?_)
      have sq3 := x3.2.sqL sq
      have sqt3 := x3.2.sqT sqt
      have prd3 : Paired (RecP K ss H3) xs rs := paired_map (fun _ _ h => h.ky x3.2) prd
      have ht33 := x3.2.tb _ ht3
      refine ⟨.ref l, rfl, l, xs, rfl, sq3, fun D nD => ?_⟩
      refine lc_it (walk_enum (K := K) (a := l) (xs := xs)) (fun i H' => Ky H3 H' ∧ H' D = some (.lst (fil (List.range rs.length) (fitP rs cs) (fun i => V.int (i : Nat)) i)))
        ⟨Ky.of (same_upd nD), by rw [upd_same, fil0]⟩ (fun i H' _ h => h.1.sqL sq3) (fun i x H' H4 hi h hy => ?_) (fun H' h => ?_)
      · obtain ⟨ky, hD⟩ := h
        obtain ⟨T, u1, u2, rfl, nT, rfl, eu1, eu2⟩ := hy
        obtain rfl : u1 = .int (i : Nat) := (Option.some.inj eu1).symm
        have eu2' : xs[i]? = some u2 := eu2
        have hi2 : i < rs.length := by omega
        have sT := same_upd nT (o := .tup [.int (i : Nat), u2])
        have ky4 := ky.trans (Ky.of sT)
        have hD4 := sT _ _ hD
        obtain ⟨r, er, ar, rfl, sqr, rr⟩ := paired_get prd3 eu2'
        have gr : rs.getD i ([], 0) = r := by
          rw [List.getD_eq_getElem?_getD, er]
          rfl
        refine ⟨T, _, rfl, SqT.of upd_same, rfl, _, _, rfl, _, _, rfl, rfl, rfl, ?_⟩
        refine ⟨.ref ar, rfl, .ref t, rfl, ar, t, r.1, cs, r.2, rfl, ky4.sqT sqr, ky4.sqT sqt3, by rw [lc, rr.1], ky4.tb _ ht33, fun H5 ky5 => ⟨_, rfl, ?_⟩⟩
        have hD5 : H5 D = some (.lst (fil (List.range rs.length) (fitP rs cs) (fun i => V.int (i : Nat)) i)) := ky5.ob _ _ (fun _ z => nomatch z) hD4
        have ky35 := ky4.trans ky5
        refine ite2 (fun e14 => ?_) (fun e14 => ?_)
        · have e15 : fitP rs cs i = true := by
            unfold fitP
            rw [gr]
            exact e14
          refine ⟨_, rfl, _, hD5, Nat.lt_of_le_of_lt fil_len (by rw [List.length_range]; exact small1000 (by omega)), (Fresh.of nD).upd ky35 hD5, ?_⟩
          rw [upd_same, fil_yes (rng_get hi2) e15]
        · have e15 : fitP rs cs i = false := by
            unfold fitP
            rw [gr]
            exact Bool.eq_false_iff.mpr e14
          refine ⟨ky35, ?_⟩
          rw [fil_no (rng_get hi2) e15]
          exact hD5
      · obtain ⟨ky, hD⟩ := h
        rw [fil_all (by rw [List.length_range]; omega)] at hD
        exact q _ D ⟨x3.1.ky ky, x3.2.trans ky⟩ ((Fresh.of nD).ky x3.2) hD
end
end Cv
set_option Elab.async false
set_option linter.all false
set_option maxRecDepth 100000
set_option maxHeartbeats 1000000
namespace Cv
open PySem PySem.Spec PyProof.Rows L2
/-! ### the law's own counts -/
def cntI (as : List (Option Str)) (c : Option Str) : Int := ((as.countP fun a => decide (a = c) : Nat) : Int)
def tallyI (as : List (Option Str)) (ws : List Str) : List Int := (ws.map some ++ [none]).map (cntI as)
theorem tally_eq (as : List (Option Str)) (ws : List Str) : tallyV as ws = (tallyI as ws).map V.int := by
  unfold tallyV tallyI cntI
  rw [List.map_append, List.map_append, List.map_map, List.map_map]
  have e : (as.countP fun a => a.isNone) = as.countP fun a => decide (a = none) := List.countP_congr fun a _ => by cases a <;> simp
  rw [e]
  rfl
def talD (ss : List (Str × List Str)) (rs : List Rec) : PyData := .list ((List.range ss.length).map fun j => .list ((tallyI (col rs j) (ss.getD j ("", [])).2).map PyData.int))
theorem ints_dpA {K : PySem.W.Frag} {H : Hp} : ∀ l : List Int, DpAll K H (l.map V.int) (l.map PyData.int)
  | [] => .nil
  | i :: r => .cons (.int i) (ints_dpA r)
theorem dpAll_by {K : PySem.W.Frag} {H : Hp} : ∀ {xs : List V} {ds : List PyData}, xs.length = ds.length → (∀ (j : Nat) (x : V) (d : PyData), xs[j]? = some x → ds[j]? = some d → Dp K H x d) → DpAll K H xs ds
  | [], [], _, _ => .nil
  | [], _ :: _, h, _ => absurd h (by simp)
  | _ :: _, [], h, _ => absurd h (by simp)
  | x :: xs, d :: ds, h, f => .cons (f 0 x d rfl rfl) (dpAll_by (by simpa using h) fun j y e h1 h2 => f (j + 1) y e (by rw [List.getElem?_cons_succ]; exact h1) (by rw [List.getElem?_cons_succ]; exact h2))
/-- the lists told, as data -/
theorem lots_dp {K : PySem.W.Frag} {ss : List (Str × List Str)} {rs : List Rec} {H' : Hp} {D : Addr} {ls : List Addr} (hD : H' D = some (.lst (ls.map V.ref))) (hl : ls.length = ss.length) (h : ∀ j l, ls[j]? = some l → H' l = some (.lst (tallyV (col rs j) (ss.getD j ("", [])).2))) : Dp K H' (.ref D) (talD ss rs) := by
  refine .lst (SqL.of hD) (dpAll_by ?_ fun j x d h1 h2 => ?_)
  · rw [List.length_map, List.length_map, List.length_range, hl]
  · rw [List.getElem?_map] at h1 h2
    have hj : j < ss.length := by
      cases e : (List.range ss.length)[j]? with
      | none =>
        rw [e] at h2
        cases h2
      | some i =>
        have := (List.getElem?_eq_some_iff.mp e).1
        rw [List.length_range] at this
        exact this
    rw [rng_get hj] at h2
    cases e : ls[j]? with
    | none =>
      rw [e] at h1
      cases h1
    | some l =>
      rw [e] at h1
      have e1 : V.ref l = x := Option.some.inj h1
      have e2 := (Option.some.inj h2).symm
      rw [← e1, e2]
      have h3 := h j l e
      rw [tally_eq] at h3
      exact .lst (SqL.of h3) (ints_dpA _)
abbrev sLt : Stmt := topS 51
abbrev nLt : List Str := ["_law_plan_here", "_law_book_here", "_law_found", "_law_k", "_law_name", "_law_codes_here", "_law_code", "_law_one"]
theorem scLt : FnScope nLt ["_law_plan_here", "_law_book_here"] (defScope sLt) := ⟨rfl, rfl, rfl, by decide +kernel, rfl, by decide +kernel, by decide +kernel⟩
def spLt (K : PySem.W.Frag) : Sp := fun vs H Q _ => ∃ (pn : V) (l : Addr) (ss : List (Str × List Str)) (xs : List V) (rs : List Rec), vs = [pn, .ref l] ∧ Dp K H pn (planD ss) ∧ GoodP ss ∧ SqL K H l xs ∧ Paired (RecP K ss H) xs rs ∧ rs.length ≤ 60 ∧
  ∀ H' D, Same H H' → Dp K H' (.ref D) (talD ss rs) → Q (.ref D) H'
abbrev sLf : Stmt := topS 52
abbrev nLf : List Str := ["_law_book_here", "_law_codes_here", "_law_found", "_law_i", "_law_record_here", "_law_k"]
theorem scLf : FnScope nLf ["_law_book_here", "_law_codes_here"] (defScope sLf) := ⟨rfl, rfl, rfl, by decide +kernel, rfl, by decide +kernel, by decide +kernel⟩
def spLf (K : PySem.W.Frag) : Sp := fun vs H Q _ => ∃ (l t : Addr) (ss : List (Str × List Str)) (xs : List V) (rs : List Rec) (cs : List (Option Str)), vs = [.ref l, .ref t] ∧ SqL K H l xs ∧ Paired (RecP K ss H) xs rs ∧ rs.length ≤ 60 ∧ SqT K H t (cs.map ansV) ∧ cs.length = ss.length ∧ cs.length ≤ 4 ∧
  ∀ H' D, Same H H' → H' D = some (.lst (fitV rs cs)) → Q (.ref D) H'
section
variable {P : Program} {w : World} {K : PySem.W.Frag} {mg : Str → Option Value} {base : Heap}
theorem ok_lt {f : Addr} {fd : FuncData} {k : Nat} (F : Fun K "_law_tallied" "_law_tallied" sLt f fd) (ml : mg "len" = none) (mls : mg "list" = none) (me : mg "enumerate" = none) : FnOk P w K mg base CX0 (k + 1) f fd ["_law_plan_here", "_law_book_here"] (spLt K) := by
  refine F.ok scLt (fun vs H Q E h => ?_) (fun cdv A outer s H vs Q E hr h => ?_)
  · obtain ⟨pn, l, ss, xs, rs, rfl, _⟩ := h
    rfl
  · obtain ⟨pn, l, ss, xs, rs, rfl, hp, gp, sq, prd, l60, q⟩ := h
    refine ⟨_, pss_cons (ps_set (i := 2) scLt.nd rfl (.inl rfl) (pe_lst pa_nil))
      (pss_cons (ps_for PassesOwn.never rfl (Ex.pi_enumT (by rfl) me (pa_cons (pv 0) pa_nil)) (pg_tup rfl (pgs_cons (pg_name (i := 3) scLt.nd rfl (.inr rfl)) (pgs_cons (pg_tup rfl (pgs_cons (pg_name (i := 4) scLt.nd rfl (.inl rfl)) (pgs_cons (pg_name (i := 5) scLt.nd rfl (.inl rfl)) pgs_nil))) pgs_nil)))
        (pss_one (ps_expr (pe_bm PySem.F.plainAttrs_list PySem.F.slot_list_append PySem.F.type_list_append mt_append (pv 2) (pa_cons
          (pe_lc (own := [("_law_code", 6)]) (g := gName 6) (tt := tYes) (te := tCB (fun xs H Q => ∃ p ys, xs = [.ref p] ∧ (SqL K H p ys ∨ SqT K H p ys) ∧ Q (.int ys.length) H) (tCons (tLc (iList K (tVar 1)) (gName 7) (tTest (tOp rEq (tOp (rIxT K) (tVar 7) (tVar 3)) (tVar 6))) (tVar 7) [7]) tNil)) (by rfl) scLt.nd
            (pi_list (pe_op op_cat (pe_callTy call_list_of (by rfl) mls (by decide +kernel) (pa_cons (pv 5) pa_nil)) (pe_lst (pa_cons pe_non pa_nil))))
            (blkOk_by (own := [("_law_code", 6)]) (N := nLt) (sc := defScope sLt) (by decide +kernel)) (fun _ _ _ _ _ => pg_name (i := 6) scLt.nd rfl (Or.inr rfl)) (fun _ _ _ _ _ => pts_nil)
            (fun _ _ _ _ _ => pe_callB call_len_seq (by rfl) ml PySem.boot_len (pa_cons (pe_lc (own := [("_law_one", 7)]) (g := gName 7) (by rfl) scLt.nd (pi_list (pv 1)) (blkOk_by (by rfl)) (fun _ _ _ _ _ => pg_name (i := 7) scLt.nd rfl (Or.inl rfl)) (fun _ _ _ _ _ => pts_one (pt_cmpR op_eq (pe_ix ix_tup (pv 7) (pv 3) (fun _ _ => rfl)) (pv 6) (nomark _))) (fun _ _ _ _ _ => pv 7)) pa_nil)))
          pa_nil)))))
      (pss_one (ps_ret (pv 2)))), ?_⟩
    obtain ⟨t, ys, rfl, sqp, hys⟩ := dp_tup hp
    have lx : ys.length = ss.length := by
      have := dpAll_len hys
      rw [List.length_map] at this
      exact this
    have lr : xs.length = rs.length := paired_len prd
    have g4 := gp.2.1
    refine ⟨Nat.zero_le _, fun o no => ?_⟩
    have s0 := same_upd no (o := .lst [])
    refine ⟨.ref t, rfl, t, ys, rfl, (Ky.of s0).sqT sqp, ?_⟩
    refine Ex.for_enumT (K := K) (a := t) (xs := ys) (fun i σ H' => ∃ (y3 y4 y5 y6 y7 : Option V) (ls : List Addr), σ = [some (.ref t), some (.ref l), some (.ref o), y3, y4, y5, y6, y7] ∧ Same H H' ∧ H' o = some (.lst (ls.map V.ref)) ∧ ls.length = i ∧ ∀ j l, ls[j]? = some l → l ≠ o ∧ H' l = some (.lst (tallyV (col rs j) (ss.getD j ("", [])).2)))
      ⟨none, none, none, none, none, [], rfl, s0, upd_same, rfl, fun j l e => by simp at e⟩ (fun i σ H' _ h => ?_) (fun i x σ H' T hx h hT => ?_) (fun σ H' h => ?_)
    · obtain ⟨_, _, _, _, _, _, _, s1, _⟩ := h
      exact (Ky.of s1).sqT sqp
    · obtain ⟨y3, y4, y5, y6, y7, ls, rfl, s1, ho, hl, hls⟩ := h
      have sT := same_upd hT (o := .tup [.int (i : Nat), x])
      have s2 := s1.trans sT
      obtain ⟨dx, ex, hdx⟩ := dpAll_get ((Ky.of s2).dpAll _ ys hys) hx
      have hi : i < ss.length := by
        have := (List.getElem?_eq_some_iff.mp hx).1
        omega
      rw [List.getElem?_map, List.getElem?_eq_getElem hi] at ex
      have ex2 : sortD ss[i] = dx := Option.some.inj ex
      rw [← ex2] at hdx
      obtain ⟨a, b, rfl, sqa, sqb⟩ := sort_val hdx
      have gi := gp.2.2.2 _ (List.getElem_mem hi)
      have lw6 := gi.2.2.2.2.1
      have gs : ss.getD i ("", []) = ss[i] := by
        rw [List.getD_eq_getElem?_getD, List.getElem?_eq_getElem hi]
        rfl
      refine ⟨T, _, rfl, SqT.of upd_same, rfl, _, _, rfl, _, _, rfl, a, _, rfl, sqa, rfl, _, _, rfl, _, _, rfl, rfl, rfl, ?_⟩
      have ho2 := sT _ _ ho
      refine ⟨.ref o, rfl, .inl ⟨rfl, _, SqL.of ho2⟩, ?_⟩
      refine ⟨.ref b, rfl, b, _, rfl, .inr sqb, fun L nL => ?_⟩
      have sL := same_upd nL (o := .lst (ss[i].2.map V.str))
      refine ⟨(by show 1 ≤ sizeLine; decide), fun M nM => ?_⟩
      have sM := same_upd nM (o := .lst [V.non])
      refine ⟨L, M, _, _, rfl, rfl, sM _ _ upd_same, upd_same, by rw [List.length_map]; exact Nat.le_of_lt (small1000 (by show ss[i].2.length + 1 ≤ 1000; omega)), fun N nN => ?_⟩
      have sN := same_upd nN (o := .lst (ss[i].2.map V.str ++ [V.non]))
      have s5 := ((s2.trans sL).trans sM).trans sN
      have ho5 := sN _ _ (sM _ _ (sL _ _ ho2))
      have eN : (upd (upd (upd (upd H' T (.tup [.int (i : Nat), .ref a])) L (.lst (ss[i].2.map V.str))) M (.lst [V.non])) N (.lst (ss[i].2.map V.str ++ [V.non]))) N = some (.lst ((ss[i].2.map some ++ [none]).map ansV)) := by
        rw [upd_same, List.map_append, List.map_map]
        rfl
      have keep : ∀ {j l'}, ls[j]? = some l' → l' ≠ o ∧ _ := fun {j l'} e => (⟨(hls j l' e).1, sN _ _ (sM _ _ (sL _ _ (sT _ _ (hls j l' e).2)))⟩ : l' ≠ o ∧ (upd (upd (upd (upd H' T (.tup [.int (i : Nat), .ref a])) L (.lst (ss[i].2.map V.str))) M (.lst [V.non])) N (.lst (ss[i].2.map V.str ++ [V.non]))) l' = some (.lst (tallyV (col rs j) (ss.getD j ("", [])).2)))
      generalize (upd (upd (upd (upd H' T (.tup [.int (i : Nat), .ref a])) L (.lst (ss[i].2.map V.str))) M (.lst [V.non])) N (.lst (ss[i].2.map V.str ++ [V.non]))) = H5 at s5 ho5 eN keep
      have sq5 := (Ky.of s5).sqL sq
      have prd5 : Paired (RecP K ss H5) xs rs := paired_map (fun _ _ h => h.ky (Ky.of s5)) prd
      refine ⟨N, rfl, ⟨_, SqL.of eN⟩, fun D nD => ?_⟩
      have nDo : o ≠ D := ne_of_none ho5 nD
      refine lc_list (K := K) (a := N) (xs := (ss[i].2.map some ++ [none]).map ansV) (Grow H5 D (fil (ss[i].2.map some ++ [none]) (fun _ => true) (fun c => V.int (cntI (col rs i) c)))) (grow0 nD fil0) (fun j H6 _ g => (Ky.of g.1).sqL (SqL.of eN)) (fun j y H6 hy g => ?_) (fun H6 g => ?_)
      · rw [List.getElem?_map] at hy
        cases ec : (ss[i].2.map some ++ [none])[j]? with
        | none =>
          rw [ec] at hy
          cases hy
        | some c =>
          rw [ec] at hy
          cases hy
          have sq6 := (Ky.of g.1).sqL sq5
          refine ⟨rfl, .ref l, rfl, l, rfl, ⟨_, sq6⟩, fun D2 nD2 => ?_⟩
          refine lc_list (K := K) (a := l) (xs := xs) (fun n H7 => ∃ acc, Same H6 H7 ∧ H7 D2 = some (.lst acc) ∧ acc.length = ((col rs i).take n).countP fun a => decide (a = c)) ⟨[], same_upd nD2, upd_same, rfl⟩ (fun n H7 _ h => (Ky.of h.choose_spec.1).sqL sq6) (fun n z H7 hz h => ?_) (fun H7 h => ?_)
          · obtain ⟨acc, s7, hD7, la⟩ := h
            obtain ⟨r, er, ar, rfl, sqr, rr⟩ := paired_get prd5 hz
            have hi2 : i < r.1.length := by
              rw [rr.1]
              exact hi
            have ecol : (col rs i)[n]? = some (r.1.getD i none) := by
              unfold col
              rw [List.getElem?_map, er]
              rfl
            have hn : n < xs.length := (List.getElem?_eq_some_iff.mp hz).1
            have lacc : acc.length < sizeLine := by
              refine Nat.lt_of_le_of_lt (?_ : acc.length ≤ 60) (by decide)
              rw [la]
              refine Nat.le_trans List.countP_le_length ?_
              rw [List.length_take]
              omega
            have step : ((col rs i).take (n + 1)).countP (fun a => decide (a = c)) = ((col rs i).take n).countP (fun a => decide (a = c)) + if decide (r.1.getD i none = c) = true then 1 else 0 := by
              rw [List.take_add_one, ecol, List.countP_append]
              simp [List.countP_cons]
            refine ⟨rfl, .ref ar, rfl, .int (i : Nat), rfl, ar, _, _, _, rfl, rfl, (Ky.of (g.1.trans s7)).sqT sqr, ans_at hi2, _, rfl, ans_scal _ _, _, rfl, ite2 (fun e14 => ?_) (fun e14 => ?_)⟩
            · have e15 : decide (r.1.getD i none = c) = true := (ans_eq _ _).symm.trans e14
              refine ⟨_, rfl, acc, hD7, lacc, acc ++ [.ref ar], fun b' o' e' => ?_, upd_same, ?_⟩
              · rw [upd_ne (ne_of_none e' nD2)]
                exact s7 _ _ e'
              · rw [step, if_pos e15, List.length_append, la]
                rfl
            · have e15 : ¬ decide (r.1.getD i none = c) = true := fun z => e14 ((ans_eq _ _).trans z)
              refine ⟨acc, s7, hD7, ?_⟩
              rw [step, if_neg e15, la, Nat.add_zero]
          · obtain ⟨acc, s7, hD7, la⟩ := h
            rw [List.take_of_length_le (by unfold col; rw [List.length_map]; omega)] at la
            refine ⟨D2, acc, rfl, .inl (SqL.of hD7), ?_⟩
            have ecn : V.int ((acc.length : Nat) : Int) = V.int (cntI (col rs i) c) := by
              unfold cntI
              rw [la]
            rw [ecn]
            exact put nD g s7 (Nat.lt_of_le_of_lt fil_len (by rw [List.length_append, List.length_map]; exact small1000 (by show ss[i].2.length + 1 ≤ 1000; omega))) (fil_yes ec rfl)
      · have g2 := g.2
        have eT : List.map (fun c => V.int (cntI (col rs i) c)) (ss[i].2.map some ++ [none]) = tallyV (col rs i) ss[i].2 := by
          rw [tally_eq]
          unfold tallyI
          rw [List.map_map]
          rfl
        rw [fil_all (by rw [List.length_map]; exact Nat.le_refl _), List.filter_eq_self.mpr (fun _ _ => rfl), eT] at g2
        have ho6 := g.1 _ _ ho5
        refine ⟨o, _, _, rfl, rfl, ho6, by rw [List.length_map]; exact small1000 (by omega), ?_⟩
        refine ⟨_, _, _, _, _, ls ++ [D], rfl, fun b' o' e' => ?_, by rw [upd_same, List.map_append]; rfl, by rw [List.length_append, hl]; rfl, fun j l' ej => ?_⟩
        · rw [upd_ne (ne_of_none e' no)]
          exact g.1 _ _ (s5 _ _ e')
        · by_cases hj : j < ls.length
          · rw [List.getElem?_append_left hj] at ej
            obtain ⟨h1, h2⟩ := keep ej
            exact ⟨h1, by rw [upd_ne h1]; exact g.1 _ _ h2⟩
          · rw [List.getElem?_append_right (by omega)] at ej
            have ej0 : j - ls.length = 0 := by
              cases hc : j - ls.length with
              | zero => rfl
              | succ n =>
                rw [hc] at ej
                simp at ej
            rw [ej0] at ej
            have e1 : D = l' := by simpa using ej
            have e2 : j = i := by omega
            rw [← e1, e2, gs]
            exact ⟨fun z => nDo z.symm, by rw [upd_ne fun z => nDo z.symm]; exact g2⟩
    · obtain ⟨y3, y4, y5, y6, y7, ls, rfl, s1, ho, hl, hls⟩ := h
      exact ⟨_, rfl, q _ o s1 (lots_dp ho (by omega) fun j l' ej => (hls j l' ej).2)⟩
end
end Cv
set_option Elab.async false
set_option linter.all false
set_option maxRecDepth 100000
set_option maxHeartbeats 1000000
namespace Cv
open PySem PySem.Spec PyProof.Rows L2
/-! ### the law's own fitting -/
theorem notT {b : Bool} (h : (!b) = true) : b = false := by simpa using h
theorem notF {b : Bool} (h : ¬ (!b) = true) : b = true := by simpa using h
def unfit (as cs : List (Option Str)) (j : Nat) : Bool := !fitAt as cs j
theorem none_left (n : Nat) (p : Nat → Bool) : decide ((((List.range n).filter fun j => !p j).map Int.ofNat) = []) = (List.range n).all p := by
  rw [Bool.eq_iff_iff, decide_eq_true_iff, List.map_eq_nil_iff, List.filter_eq_nil_iff, List.all_eq_true]
  refine ⟨fun h j hj => ?_, fun h j hj z => ?_⟩
  · have := h j hj
    cases e : p j with
    | true => rfl
    | false =>
      rw [e] at this
      exact absurd rfl this
  · rw [h j hj] at z
    cases z
theorem ints_dpF {K : PySem.W.Frag} {H : Hp} (l : List Int) : DpAll K H (l.map V.int) (l.map PyData.int) := ints_dpA l
section
variable {P : Program} {w : World} {K : PySem.W.Frag} {mg : Str → Option Value} {base : Heap}
theorem ok_lf {f : Addr} {fd : FuncData} {k : Nat} (F : Fun K "_law_fitting" "_law_fitting" sLf f fd) (ml : mg "len" = none) (mr : mg "range" = none) (me : mg "enumerate" = none) : FnOk P w K mg base CX0 (k + 1) f fd ["_law_book_here", "_law_codes_here"] (spLf K) := by
  refine F.ok scLf (fun vs H Q E h => ?_) (fun cdv A outer s H vs Q E hr h => ?_)
  · obtain ⟨l, t, ss, xs, rs, cs, rfl, _⟩ := h
    rfl
  · obtain ⟨l, t, ss, xs, rs, cs, rfl, sq, prd, l60, sqt, lc, lc4, q⟩ := h
    refine ⟨_, pss_cons (ps_set (i := 2) scLf.nd rfl (.inl rfl) (pe_lst pa_nil))
      (pss_cons (ps_for PassesOwn.never rfl (pi_enum (by rfl) me (pa_cons (pv 0) pa_nil)) (pg_tup rfl (pgs_cons (pg_name (i := 3) scLf.nd rfl (.inl rfl)) (pgs_cons (pg_name (i := 4) scLf.nd rfl (.inr rfl)) pgs_nil)))
        (pss_one (ps_if (pt_cmpR (op_eqD hr.units) (pe_lc (own := [("_law_k", 5)]) (g := gName 5) (tt := tAnd (tTest (tOp (fun x y H Q => y = .non ∧ Q (.bl (!decide (x = .non))) H) (tOp (rIxT K) (tVar 1) (tVar 5)) (tC .non))) (tTest (tOp rNe (tOp (rIxT K) (tVar 1) (tVar 5)) (tOp (rIxT K) (tVar 4) (tVar 5))))) (by rfl) scLf.nd
            (pi_range1 (by rfl) mr (pa_cons (pe_callB call_len_seq (by rfl) ml PySem.boot_len (pa_cons (pv 1) pa_nil)) pa_nil))
            (blkOk_by (own := [("_law_k", 5)]) (N := nLf) (sc := defScope sLf) (by decide +kernel)) (fun _ _ _ _ _ => pg_name (i := 5) scLf.nd rfl (Or.inl rfl))
            (fun _ _ _ _ _ => pts_one (PW.pt (pw_and (pt_cmpR op_notN (pe_ix ix_tup (pv 1) (pv 5) (fun _ _ => rfl)) pe_non rfl) (pw_and1 (pt_cmpR op_ne (pe_ix ix_tup (pv 1) (pv 5) (fun _ _ => rfl)) (pe_ix ix_tup (pv 4) (pv 5) (fun _ _ => rfl)) (nomark _))))))
            (fun _ _ _ _ _ => pv 5)) (pe_lst pa_nil) (nomark _))
          (pss_one (ps_expr (pe_bm PySem.F.plainAttrs_list PySem.F.slot_list_append PySem.F.type_list_append mt_append (pv 2) (pa_cons (pv 3) pa_nil)))) pss_nil)))
      (pss_one (ps_ret (pv 2)))), ?_⟩
    have lr : xs.length = rs.length := paired_len prd
    refine ⟨Nat.zero_le _, fun o no => ?_⟩
    have s0 := same_upd no (o := .lst [])
    refine ⟨.ref l, rfl, l, xs, rfl, (Ky.of s0).sqL sq, ?_⟩
    refine for_it (walk_enum (K := K) (a := l) (xs := xs)) (fun i σ H' => ∃ z3 z4 z5, σ = [some (.ref l), some (.ref t), some (.ref o), z3, z4, z5] ∧ Same H H' ∧ H' o = some (.lst (fil (List.range rs.length) (fitP rs cs) (fun i => V.int (i : Nat)) i))) ⟨none, none, none, rfl, s0, by rw [upd_same, fil0]⟩
      (fun i σ H' _ h => ?_) (fun i x σ H' H2 hi h hy => ?_) (fun σ H' h => ?_)
    · obtain ⟨_, _, _, _, s1, _⟩ := h
      exact (Ky.of s1).sqL sq
    · obtain ⟨z3, z4, z5, rfl, s1, ho⟩ := h
      obtain ⟨T, u1, u2, rfl, nT, rfl, e1, e2⟩ := hy
      obtain rfl : u1 = .int (i : Nat) := (Option.some.inj e1).symm
      have e2' : xs[i]? = some u2 := e2
      have sT := same_upd nT (o := .tup [.int (i : Nat), u2])
      have s2 := s1.trans sT
      have ho2 := sT _ _ ho
      have hi2 : i < rs.length := by omega
      obtain ⟨r, er, ar, rfl, sqr, rr⟩ := paired_get (paired_map (fun _ _ h => h.ky (Ky.of s2)) prd : Paired (RecP K ss _) xs rs) e2'
      have gr : rs.getD i ([], 0) = r := by
        rw [List.getD_eq_getElem?_getD, er]
        rfl
      refine ⟨T, _, rfl, SqT.of upd_same, rfl, _, _, rfl, _, _, rfl, rfl, ?_⟩
      have sqt2 := (Ky.of s2).sqT sqt
      generalize upd H' T (.tup [.int (i : Nat), .ref ar]) = H2 at s2 ho2 sqr sqt2
      refine ⟨.ref t, rfl, t, _, rfl, .inr sqt2, _, rfl, by rw [List.length_map]; omega, by rw [List.length_map]; omega, fun D nD => ?_⟩
      refine lc_range (lo := 0) (n := (((cs.map ansV).length : Nat) : Int).toNat) (Grow H2 D (fil (List.range cs.length) (unfit r.1 cs) (fun k => V.int (k : Nat)))) (grow0 nD fil0) (fun j H5 hj g5 => ?_) (fun H5 g5 => ?_)
      · rw [Int.toNat_natCast, List.length_map] at hj
        rw [Int.zero_add]
        have hj2 : j < r.1.length := by
          rw [rr.1]
          omega
        have at1 : atI (cs.map ansV) ((j : Nat) : Int) = some (ansV (cs.getD j none)) := atI_nat (by
          rw [List.getElem?_map, List.getD_eq_getElem?_getD, List.getElem?_eq_getElem hj]
          rfl)
        have sqt5 := (Ky.of g5.1).sqT sqt2
        have sqr5 := (Ky.of g5.1).sqT sqr
        refine ⟨rfl, .ref t, rfl, .int (j : Nat), rfl, t, _, _, _, rfl, rfl, sqt5, at1, rfl, _, rfl, ite2 (fun e14 => ?_) (fun e14 => ?_)⟩
        · have en : (cs.getD j none).isNone = false := by
            rw [← ans_non]
            exact notT e14
          refine ⟨.ref t, rfl, .int (j : Nat), rfl, t, _, _, _, rfl, rfl, sqt5, at1, .ref ar, rfl, .int (j : Nat), rfl, ar, _, _, _, rfl, rfl, sqr5, ans_at hj2, ans_scal _ _, _, rfl, ite2 (fun e15 => ?_) (fun e15 => ?_)⟩
          · have e16 : unfit r.1 cs j = true := by
              have z := notT e15
              rw [ans_eq] at z
              unfold unfit fitAt
              rw [en, Bool.false_or, decide_eq_false (fun y => of_decide_eq_false z y.symm)]
              rfl
            exact ⟨_, rfl, put nD g5 (Same.refl _) (Nat.lt_of_le_of_lt fil_len (by rw [List.length_range]; exact small1000 (by omega))) (fil_yes (rng_get hj) e16)⟩
          · have e16 : unfit r.1 cs j = false := by
              have z := notF e15
              rw [ans_eq] at z
              unfold unfit fitAt
              rw [en, Bool.false_or, decide_eq_true (of_decide_eq_true z).symm]
              rfl
            exact left g5 (Same.refl _) (fil_no (rng_get hj) e16)
        · have en : (cs.getD j none).isNone = true := by
            rw [← ans_non]
            exact notF e14
          have e16 : unfit r.1 cs j = false := by
            unfold unfit fitAt
            rw [en]
            rfl
          exact left g5 (Same.refl _) (fil_no (rng_get hj) e16)
      · have g6 := g5.2
        have eT : List.map (fun k => V.int ((k : Nat) : Int)) ((List.range cs.length).filter (unfit r.1 cs)) = (((List.range cs.length).filter (unfit r.1 cs)).map Int.ofNat).map V.int := by
          rw [List.map_map]
          rfl
        rw [fil_all (by rw [List.length_range, Int.toNat_natCast, List.length_map]; exact Nat.le_refl _), eT] at g6
        refine ⟨Nat.zero_le _, fun D6 nD6 => ?_⟩
        have s6 := same_upd nD6 (o := .lst [])
        have ho6 := s6 _ _ (g5.1 _ _ ho2)
        have s26 := (s2.trans g5.1).trans s6
        have ef : decide ((((List.range cs.length).filter (unfit r.1 cs)).map Int.ofNat) = []) = fitP rs cs i := by
          unfold fitP fitsB
          rw [gr]
          exact none_left cs.length (fitAt r.1 cs)
        refine ⟨_, _, .lst (SqL.of (s6 _ _ g6)) (ints_dpF _), .lst (SqL.of upd_same) .nil, ints_shaped _, ints_shaped [], _, rfl, ?_⟩
        rw [eqv_nil, ef]
        refine ite2 (fun e14 => ?_) (fun e14 => ?_)
        · refine ⟨.ref o, rfl, .inl ⟨rfl, _, SqL.of ho6⟩, _, rfl, o, _, _, rfl, rfl, ho6, Nat.lt_of_le_of_lt fil_len (by rw [List.length_range]; exact small1000 (by omega)), _, _, _, rfl, fun b' o' e' => ?_, ?_⟩
          · rw [upd_ne (ne_of_none e' no)]
            exact s26 _ _ e'
          · rw [upd_same, fil_yes (rng_get hi2) e14]
        · refine ⟨_, _, _, rfl, s26, ?_⟩
          rw [fil_no (rng_get hi2) (Bool.eq_false_iff.mpr e14)]
          exact ho6
    · obtain ⟨z3, z4, z5, rfl, s1, ho⟩ := h
      rw [fil_all (by rw [List.length_range]; omega)] at ho
      exact ⟨_, rfl, q _ o s1 ho⟩
end
end Cv
set_option Elab.async false
set_option linter.all false
set_option maxRecDepth 100000
set_option maxHeartbeats 1000000
namespace Cv
open PySem PySem.Spec PyProof.Rows L2
/-! ### refused -/
abbrev sRx : Stmt := topS 50
abbrev nRx : List Str := ["_law_plan_here", "_law_book_here", "_law_codes_here", "_law_caught", "e"]
theorem scRx : FnScope nRx ["_law_plan_here", "_law_book_here", "_law_codes_here"] (defScope sRx) := ⟨rfl, rfl, rfl, by decide +kernel, rfl, by decide +kernel, by decide +kernel⟩
structure XC (K : PySem.W.Frag) (C C0 cB cP cR cT : Addr) : Prop where
  ex : PySem.W.exmOne K (.ref C) (.ref C0) = some true
  xc : ExcC K C
  k4 : PySem.W.kitAny K (.ref C) [.ref cB, .ref cP, .ref cR, .ref cT] = some false
  kc : PySem.W.kitOne K (.ref C) (.ref C) = some true
  kv : PySem.W.kitOne K (.ref C) (.type "ValueError") = some true
structure XH (mg : Str → Option Value) (C C0 cB cP cR cT : Addr) : Prop where
  g0 : mg "CountError" = some (.ref C0)
  gB : mg "NoBook" = some (.ref cB)
  gP : mg "NoPlan" = some (.ref cP)
  gR : mg "NoRecord" = some (.ref cR)
  gT : mg "NoText" = some (.ref cT)
  gC : mg "NoCodes" = some (.ref C)
  mi : mg "isinstance" = none
  mv : mg "ValueError" = none
def spRx (K : PySem.W.Frag) (P1 P2 P3 : Addr) : Sp := fun vs H Q _ => ∃ (pn tv : V) (l : Addr) (ss : List (Str × List Str)) (xs : List V) (rs : List Rec) (d : PyData), vs = [pn, .ref l, tv] ∧ Dp K H pn (planD ss) ∧ GoodP ss ∧ SqL K H l xs ∧ Paired (RecP K ss H) xs rs ∧ rs.length ≤ 60 ∧ Dp K H tv d ∧ pl d = true ∧ Tabs P1 P2 H ∧ GxR.TabG H P3 ∧ areCodes ss d = false ∧ ∀ H', Tx P1 P2 H H' → Q (.bl true) H'
section
variable {P : Program} {w : World} {K : PySem.W.Frag} {mg : Str → Option Value} {base : Heap}
theorem ok_rx {f C C0 cB cP cR cT P1 P2 P3 f0 : Addr} {fd d0 : FuncData} {k : Nat} (F : Fun K "_law_refused" "_law_refused" sRx f fd) (x : XH mg C C0 cB cP cR cT) (xC : XC K C C0 cB cP cR cT)
    (A0 : At P w K mg base (CX P w) k "fitting" f0 d0 ["plan", "book", "codes"] (spFg C K P1 P2 P3)) : FnOk P w K mg base CX0 (k + 1) f fd ["_law_plan_here", "_law_book_here", "_law_codes_here"] (spRx K P1 P2 P3) := by
  refine F.ok scRx (fun vs H Q E h => ?_) (fun cdv A outer s H vs Q E hr h => ?_)
  · obtain ⟨pn, tv, l, ss, xs, rs, d, rfl, _⟩ := h
    rfl
  · obtain ⟨pn, tv, l, ss, xs, rs, d, rfl, hp, gp, sq, prd, l60, hd, hpl, ht, ht3, no, q⟩ := h
    refine ⟨_, pss_cons (ps_set (i := 3) scRx.nd rfl (.inl rfl) pe_non)
      (pss_cons (ps_try_keep (i := 4) rfl rfl rfl scRx.nd rfl rfl ⟨rfl, by decide, .inl x.g0⟩
        (fun W pn xe tk _ => pss_one (ps_expr (pe_callS A0.ok hr (by rfl) A0.g A0.kp A0.b (fun σ => passAt tk σ) (pa_cons (pv 0) (pa_cons (pv 1) (pa_cons (pv 2) pa_nil))))))
        (fun a oe cls d pn hz hf => pss_one (ps_set (i := 3) scRx.nd rfl (.inl rfl) (pv 4))))
      (pss_cons (ps_if (pt_val (pe_callB call_is0T (by rfl) x.mi PyProof.Rows.boot_isinstance (pa_cons (pv 3) (pa_cons (pe_tup (pa_cons (pe_glob (v := .ref cB) (by rfl) x.gB rfl) (pa_cons (pe_glob (v := .ref cP) (by rfl) x.gP rfl) (pa_cons (pe_glob (v := .ref cR) (by rfl) x.gR rfl) (pa_cons (pe_glob (v := .ref cT) (by rfl) x.gT rfl) pa_nil))))) pa_nil)))) (pss_one (ps_ret pe_bl)) pss_nil)
      (pss_one (ps_ret (pe_and (pe_callB call_is0 (by rfl) x.mi PyProof.Rows.boot_isinstance (pa_cons (pv 3) (pa_cons (pe_glob (v := .ref C) (by rfl) x.gC rfl) pa_nil))) (pe_one (pe_callB call_is0 (by rfl) x.mi PyProof.Rows.boot_isinstance (pa_cons (pv 3) (pa_cons (pe_bltn (v := .ty "ValueError") (by rfl) x.mv PyProof.Rows.Boot.«ValueError» rfl) pa_nil))))))))), ?_⟩
    refine ⟨pn, rfl, .ref l, rfl, tv, rfl, pn, tv, l, ss, xs, rs, d, rfl, hp, gp, sq, prd, l60, hd, hpl, ht, ht3, .inl ⟨no, fun H' x1 => ?_⟩⟩
    refine ⟨xC.ex, C, rfl, fun a na => ⟨.ref a, rfl, ?_⟩⟩
    have ha : (upd H' a (xob a C none)) a = some (xob a C none) := upd_same
    refine ⟨.ref a, rfl, (by show 4 ≤ sizeLine; decide), fun tp ntp => ?_⟩
    have s3 := same_upd ntp (o := .tup [.ref cB, .ref cP, .ref cR, .ref cT])
    refine ⟨a, C, tp, _, _, false, rfl, s3 _ _ ha, upd_same, .cons (.own _) (.cons (.own _) (.cons (.own _) (.cons (.own _) .nil))), xC.xc, xC.k4, false, rfl, iteF ?_⟩
    refine ⟨.ref a, rfl, a, C, _, _, true, rfl, s3 _ _ ha, .own _, xC.xc, xC.kc, true, rfl, ite2 (fun _ => ?_) (fun z => absurd rfl z)⟩
    refine ⟨.ref a, rfl, a, C, _, _, true, rfl, s3 _ _ ha, .ty _, xC.xc, xC.kv, ?_⟩
    have x2 := x1.trans (.of x1.1 (same_upd na (o := xob a C none)))
    exact q _ (x2.trans (.of x2.1 s3))
end
end Cv
set_option Elab.async false
set_option linter.all false
set_option maxRecDepth 100000
set_option maxHeartbeats 1000000
namespace Cv
open PySem PySem.Spec PyProof.Rows L2
/-! ### things that are no codes -/
def BadV (ws : List Str) : V → Prop
  | .str z => z ∉ ws
  | .non => False
  | _ => True
theorem bad_in {K : PySem.W.Frag} {H : Hp} {ws : List Str} {v : V} {d : PyData} (b : BadV ws v) (h : Dp K H v d) : d ≠ .none ∧ inCodes ws d = false := by
  cases h with
  | non => exact absurd b id
  | str z => exact ⟨(fun z => nomatch z), decide_eq_false b⟩
  | bl b => exact ⟨(fun z => nomatch z), rfl⟩
  | int i => exact ⟨(fun z => nomatch z), rfl⟩
  | lst _ _ => exact ⟨(fun z => nomatch z), rfl⟩
  | tup _ _ => exact ⟨(fun z => nomatch z), rfl⟩
theorem bad_code {ss : List (Str × List Str)} {ds : List PyData} {k : Nat} {d : PyData} (e : ds[k]? = some d) (h1 : d ≠ .none) (h2 : inCodes (ss.getD k ("", [])).2 d = false) : badCode ss ds k = true := by
  unfold badCode
  rw [List.getD_eq_getElem?_getD, e]
  cases d with
  | none => exact absurd rfl h1
  | _ =>
    exact congrArg (fun b => !b) h2
theorem areCodes_bad {ss : List (Str × List Str)} {ds : List PyData} {k : Nat} (hk : k < ss.length) (hb : badCode ss ds k = true) : areCodes ss (.tuple ds) = false := by
  show (decide (ds.length = ss.length) && (firstK ss.length (badCode ss ds)).isNone) = false
  cases e : firstK ss.length (badCode ss ds) with
  | none => exact absurd hb (List.find?_eq_none.mp e k (List.mem_range.mpr hk))
  | some j => rw [Option.isNone_some, Bool.and_false]
theorem areCodes_len {ss : List (Str × List Str)} {ds : List PyData} (h : ds.length ≠ ss.length) : areCodes ss (.tuple ds) = false := by
  show (decide (ds.length = ss.length) && _) = false
  rw [decide_eq_false h, Bool.false_and]
def OddV (K : PySem.W.Frag) (ss : List (Str × List Str)) (H : Hp) (v : V) : Prop := ∃ d, Dp K H v d ∧ pl d = true ∧ wt d ≤ 4000 ∧ areCodes ss d = false
section
variable {K : PySem.W.Frag} {ss : List (Str × List Str)} {H H' : Hp}
theorem OddV.ky {v : V} (h : OddV K ss H v) (k : Ky H H') : OddV K ss H' v := by
  obtain ⟨d, h1, h2⟩ := h
  exact ⟨d, k.dp _ _ h1, h2⟩
theorem odd_len {a : Addr} {xs : List V} (sq : SqT K H a xs) (h : ∀ x ∈ xs, Good K 300 x H) (l : xs.length ≤ 6) (ne : xs.length ≠ ss.length) : OddV K ss H (.ref a) := by
  obtain ⟨ds, h1, h2, h3⟩ := goods h
  have h4 := dpAll_len h1
  have h5 : xs.length * (300 + 2) ≤ 6 * 302 := Nat.mul_le_mul_right _ l
  refine ⟨.tuple ds, .tup sq h1, by rw [pl]; exact h2, by rw [wt]; omega, areCodes_len (by omega)⟩
theorem odd_at {a : Addr} {xs : List V} {k : Nat} {v : V} (sq : SqT K H a xs) (h : ∀ x ∈ xs, Good K 300 x H) (l : xs.length ≤ 6) (hk : k < ss.length) (e : xs[k]? = some v) (b : BadV (ss.getD k ("", [])).2 v) : OddV K ss H (.ref a) := by
  obtain ⟨ds, h1, h2, h3⟩ := goods h
  have h5 : xs.length * (300 + 2) ≤ 6 * 302 := Nat.mul_le_mul_right _ l
  obtain ⟨d, ed, hd⟩ := dpAll_get h1 e
  obtain ⟨b1, b2⟩ := bad_in b hd
  exact ⟨.tuple ds, .tup sq h1, by rw [pl]; exact h2, by rw [wt]; omega, areCodes_bad hk (bad_code ed b1 b2)⟩
theorem odd_lst {a : Addr} {xs : List V} (sq : SqL K H a xs) (h : ∀ x ∈ xs, Good K 300 x H) (l : xs.length ≤ 6) : OddV K ss H (.ref a) := by
  obtain ⟨ds, h1, h2, h3⟩ := goods h
  have h5 : xs.length * (300 + 2) ≤ 6 * 302 := Nat.mul_le_mul_right _ l
  exact ⟨.list ds, .lst sq h1, by rw [pl]; exact h2, by rw [wt]; omega, rfl⟩
theorem ans_good {cs : List (Option Str)} (gp : GoodP ss) (lc : cs.length = ss.length) (ao : AnsOk ss cs) : ∀ x ∈ cs.map ansV, Good K 300 x H := by
  intro x hx
  obtain ⟨a, ha, rfl⟩ := List.mem_map.mp hx
  cases a with
  | none => exact ⟨.none, .non, rfl, by rw [wt]; omega⟩
  | some z =>
    obtain ⟨i, hi, e⟩ := List.mem_iff_getElem.mp ha
    have hz := ao i z (by rw [List.getElem?_eq_getElem hi, e])
    have his : i < ss.length := by omega
    rw [List.getD_eq_getElem?_getD, List.getElem?_eq_getElem his] at hz
    have g := (gp.2.2.2 _ (List.getElem_mem his)).2.2.2.2.2.2 z hz
    exact ⟨.str z, .str z, lets_pl g.2.2, by rw [wt]; have := g.2.1; omega⟩
end
theorem cut_upto {xs : List V} {k : Nat} (h : k ≤ xs.length) : (cutV xs none (some ((k : Nat) : Int))).length = k := by
  unfold cutV
  rw [HT.sIx_nat, HT.sIx_none, List.length_take, List.length_drop]
  omega
theorem cut_from1 {xs : List V} (h : 1 ≤ xs.length) : (cutV xs (some 1) none).length = xs.length - 1 := by
  unfold cutV
  have e : HT.sIx xs.length 0 (some 1) = min 1 xs.length := HT.sIx_nat xs.length 0 1
  rw [e, HT.sIx_none, List.length_take, List.length_drop]
  omega
theorem splice_at {xs ys : List V} {k : Nat} {v : V} (h : k ≤ xs.length) : (cutV xs none (some ((k : Nat) : Int)) ++ [v] ++ ys)[k]? = some v := by
  have e := cut_upto h
  rw [List.append_assoc, List.getElem?_append_right (by omega), e, Nat.sub_self]
  rfl
theorem cut_rest {xs : List V} {k : Nat} (h : k < xs.length) : (cutV xs (some ((k : Nat) + 1 : Int)) none).length = xs.length - (k + 1) := by
  unfold cutV
  have e : HT.sIx xs.length 0 (some ((k : Nat) + 1 : Int)) = min (k + 1) xs.length := HT.sIx_nat xs.length 0 (k + 1)
  rw [e, HT.sIx_none, List.length_take, List.length_drop]
  omega
theorem plan_at {K : PySem.W.Frag} {H : Hp} {pn : V} {ss : List (Str × List Str)} (hp : Dp K H pn (planD ss)) : ∃ t xs, pn = .ref t ∧ SqT K H t xs ∧ xs.length = ss.length ∧ ∀ (i : Nat) (h : i < ss.length), ∃ a b, xs[i]? = some (.ref a) ∧ SqT K H a [.str ss[i].1, .ref b] ∧ SqT K H b (ss[i].2.map V.str) := by
  obtain ⟨t, xs, rfl, sq, hxs⟩ := dp_tup hp
  have lx := dpAll_len hxs
  rw [List.length_map] at lx
  refine ⟨t, xs, rfl, sq, lx, fun i h => ?_⟩
  obtain ⟨x, hx⟩ : ∃ x, xs[i]? = some x := ⟨xs[i]'(by omega), List.getElem?_eq_getElem (by omega)⟩
  obtain ⟨dx, ex, hdx⟩ := dpAll_get hxs hx
  rw [List.getElem?_map, List.getElem?_eq_getElem h] at ex
  have ex2 : sortD ss[i] = dx := Option.some.inj ex
  rw [← ex2] at hdx
  obtain ⟨a, b, rfl, s1, s2⟩ := sort_val hdx
  exact ⟨a, b, hx, s1, s2⟩
theorem at_last {α : Type} {xs : List α} (h : 0 < xs.length) : atI xs (-1) = some (xs[xs.length - 1]'(by omega)) := by
  unfold atI ixN
  rw [if_neg (by decide), if_pos (by omega)]
  show xs[(-1 + (xs.length : Int)).toNat]? = _
  rw [show (-1 + (xs.length : Int)).toNat = xs.length - 1 by omega, List.getElem?_eq_getElem]
theorem at_pred {α : Type} {xs : List α} {k : Nat} (h : k < xs.length) : ∃ j, j < xs.length ∧ atI xs ((k : Nat) - 1 : Int) = xs[j]? := by
  cases k with
  | zero => exact ⟨xs.length - 1, by omega, by rw [show (((0 : Nat) : Int) - 1) = -1 from rfl, at_last h, List.getElem?_eq_getElem]⟩
  | succ j => exact ⟨j, by omega, by
      rw [show (((j + 1 : Nat) : Int) - 1) = ((j : Nat) : Int) by omega, List.getElem?_eq_getElem (by omega)]
      exact atI_nat (List.getElem?_eq_getElem (by omega))⟩
abbrev sOd : Stmt := topS 49
abbrev nOd : List Str := ["_law_purse_here", "_law_plan_here", "_law_codes_here", "_law_k", "_law_odd", "_law_some", "_law_other", "_law_thing"]
theorem scOd : FnScope nOd ["_law_purse_here", "_law_plan_here", "_law_codes_here"] (defScope sOd) := ⟨rfl, rfl, rfl, by decide +kernel, rfl, by decide +kernel, by decide +kernel⟩
def spOd (K : PySem.W.Frag) : Sp := fun vs H Q _ => ∃ (p c : Addr) (T : Nat) (pn : V) (t : Addr) (ss : List (Str × List Str)) (cs : List (Option Str)), vs = [.ref p, pn, .ref t] ∧ Pur H p c T ∧ T ≤ 999990000 ∧ Dp K (hid p c H) pn (planD ss) ∧ GoodP ss ∧ SqT K H t (cs.map ansV) ∧ cs.length = ss.length ∧ AnsOk ss cs ∧
  ∀ H' l xs, Kp p c H H' → Pur H' p c (T + 10) → H' l = some (.lst xs) → (∀ x ∈ xs, OddV K ss H' x) → Q (.ref l) H'
theorem shaped_of {d : PyData} (h : pl d = true) (w : wt d ≤ 4000) : SeqAt.shaped d = true := by
  obtain ⟨_, _, _, a4⟩ := shows d h
  unfold SeqAt.shaped
  rw [pl_lay d h, decide_eq_true (by omega)]
  rfl
section
variable {P : Program} {w : World} {K : PySem.W.Frag} {mg : Str → Option Value} {base : Heap}
theorem ok_od {f fD fK : Addr} {fd fdD fdK : FuncData} {k : Nat} (F : Fun K "_law_odd_codes" "_law_odd_codes" sOd f fd) (D : At P w K mg base CX0 k "_law_draw" fD fdD ["_law_purse_here", "_law_out_of"] spDraw) (Pk : At P w K mg base CX0 k "_law_pick" fK fdK ["_law_purse_here", "_law_some"] (spPick K))
    (ml : mg "len" = none) (mls : mg "list" = none) : FnOk P w K mg base CX0 (k + 1) f fd ["_law_purse_here", "_law_plan_here", "_law_codes_here"] (spOd K) := by
  refine F.ok scOd (fun vs H Q E h => ?_) (fun cdv A outer s H vs Q E hr h => ?_)
  · obtain ⟨p, c, T, pn, t, ss, cs, rfl, _⟩ := h
    rfl
  · obtain ⟨p, c, T, pn, t, ss, cs, rfl, hP, hT, hp, gp, sqt, lc, ao, q⟩ := h
    refine ⟨_, pss_cons (ps_set (i := 3) scOd.nd rfl (.inl rfl) (pe_call D.ok hr (by rfl) D.g D.kp D.b .nil pass0 (pa_cons (pv 0) (pa_cons (pe_callB call_len_seq (by rfl) ml PySem.boot_len (pa_cons (pv 1) pa_nil)) pa_nil))))
      (pss_cons (ps_set (i := 4) scOd.nd rfl (.inl rfl) (pe_call Pk.ok hr (by rfl) Pk.g Pk.kp Pk.b .nil pass0 (pa_cons (pv 0) (pa_cons (pe_lst (pa_cons pe_str (pa_cons pe_str (pa_cons pe_int (pa_cons pe_bl (pa_cons (pe_lst (pa_cons pe_str pa_nil)) (pa_cons (pe_tup (pa_cons pe_str pa_nil)) (pa_cons pe_str pa_nil)))))))) pa_nil))))
      (pss_cons (ps_set (i := 5) scOd.nd rfl (.inl rfl) (pe_lst (pa_cons (pe_op op_catG (pv 2) (pe_tup (pa_cons pe_non pa_nil))) (pa_cons (pe_slice sl_tupG (pv 2) (po_some pe_int) po_none) (pa_cons (pe_callTy call_list_of (by rfl) mls (by decide +kernel) (pa_cons (pv 2) pa_nil)) (pa_cons pe_non (pa_cons pe_str (pa_cons (pe_tup pa_nil)
        (pa_cons (pe_op op_catG (pe_op op_catG (pe_slice sl_tupG (pv 2) po_none (po_some (pv 3))) (pe_tup (pa_cons (pv 4) pa_nil))) (pe_slice sl_tupG (pv 2) (po_some (pe_op op_add (pv 3) pe_int)) po_none)) pa_nil)))))))))
      (pss_cons (ps_set (i := 6) scOd.nd rfl (.inl rfl) (pe_ix ix_tup (pe_ix ix_tup (pe_ix ix_tup (pv 1) (pe_op op_sub (pv 3) pe_int) (fun _ _ => rfl)) pe_int (fun _ _ => rfl)) (pe_un un_neg pe_int) (fun _ _ => rfl)))
      (pss_cons (ps_if (pt_cmpR (op_notInT hr.u65) (pv 6) (pe_ix ix_tup (pe_ix ix_tup (pv 1) (pv 3) (fun _ _ => rfl)) pe_int (fun _ _ => rfl)) rfl)
        (pss_one (ps_expr (pe_bm PySem.F.plainAttrs_list PySem.F.slot_list_append PySem.F.type_list_append mt_append (pv 5) (pa_cons (pe_op op_catG (pe_op op_catG (pe_slice sl_tupG (pv 2) po_none (po_some (pv 3))) (pe_tup (pa_cons (pv 6) pa_nil))) (pe_slice sl_tupG (pv 2) (po_some (pe_op op_add (pv 3) pe_int)) po_none)) pa_nil)))) pss_nil)
      (pss_one (ps_ret (pe_lc (own := [("_law_thing", 7)]) (g := gName 7) (tt := tTest (tOp (rNeD K) (tVar 7) (tVar 2))) (te := tVar 7) (by rfl) scOd.nd (pi_list (pv 5)) (blkOk_by (own := [("_law_thing", 7)]) (N := nOd) (sc := defScope sOd) (by decide +kernel)) (fun _ _ _ _ _ => pg_name (i := 7) scOd.nd rfl (Or.inl rfl)) (fun _ _ _ _ _ => pts_one (pt_cmpR (op_neD hr.units) (pv 7) (pv 2) (nomark _))) (fun _ _ _ _ _ => pv 7)))))))), ?_⟩
    obtain ⟨tp, xs, rfl, sqp, lx, at_⟩ := plan_at hp
    have g1 := gp.1
    have g4 := gp.2.1
    have sqp0 := (Ky.of hid_le).sqT sqp
    refine ⟨.ref p, rfl, .ref tp, rfl, tp, xs, rfl, .inr sqp0, p, c, T, _, rfl, hP, by omega, by omega, by omega, fun H1 r r0 r1 hP1 hK1 => ?_⟩
    obtain ⟨n, rfl⟩ : ∃ n : Nat, r = (n : Nat) := ⟨r.toNat, by omega⟩
    have hn : n < ss.length := by omega
    have at1 : ∀ {H' : Hp}, Kp p c H H' → SqT K H' tp xs := fun k => (Ky.of ((hid_kp k).trans hid_le)).sqT sqp
    -- the odd one
    refine ⟨.ref p, rfl, (by show 1 ≤ sizeLine; decide), fun l1 nl1 => ⟨(by show 1 ≤ sizeLine; decide), fun t1 nt1 => ⟨(by show 7 ≤ sizeLine; decide), fun l2 nl2 => ?_⟩⟩⟩
    obtain ⟨a1, a2⟩ := hP1.nep nl1
    have s1 := same_upd nl1 (o := .lst [.str "a"])
    have s2 := same_upd nt1 (o := .tup [.str "a"])
    have hP2 := (hP1.same s1).same s2
    obtain ⟨a3, a4⟩ := hP2.nep nl2
    have odd : ∀ v ∈ [V.str "", V.str "zzzz", V.int 0, V.bl true, V.ref l1, V.ref t1, V.str "-"], GoodA K p c 300 v (upd (upd H1 l1 (.lst [.str "a"])) t1 (.tup [.str "a"])) ∧ ∀ ws, GoodC ws → BadV ws v := by
      intro v hv
      simp only [List.mem_cons, List.mem_nil_iff, or_false] at hv
      rcases hv with rfl | rfl | rfl | rfl | rfl | rfl | rfl
      · exact ⟨good_str (by decide +kernel) (by decide), fun ws g z => absurd (g.2.2.2 _ z).1 (by decide)⟩
      · exact ⟨good_str (by decide +kernel) (by decide), fun ws g z => g.2.2.1.2 z⟩
      · exact ⟨good_int (by decide) (by decide) (by decide), fun _ _ => trivial⟩
      · exact ⟨good_bl (by decide), fun _ _ => trivial⟩
      · exact ⟨LstG.good (n := 20) (m := 1) ⟨l1, [.str "a"], rfl, a1, a2, s2 _ _ upd_same, rfl, fun x hx => by rw [List.mem_singleton.mp hx]; exact good_str (by decide +kernel) (by decide)⟩ (by decide), fun _ _ => trivial⟩
      · exact ⟨TupG.good (n := 20) (m := 1) ⟨t1, [.str "a"], rfl, SqT.of upd_same, by decide, fun x hx => by rw [List.mem_singleton.mp hx]; exact good_str (by decide +kernel) (by decide)⟩ hP2 (by decide), fun _ _ => trivial⟩
      · exact ⟨good_str (by decide +kernel) (by decide), fun ws g z => absurd ((g.2.2.2 _ z).2.2 45 (by decide +kernel)) (by decide)⟩
    have s3 := same_upd nl2 (o := .lst [V.str "", V.str "zzzz", V.int 0, V.bl true, V.ref l1, V.ref t1, V.str "-"])
    refine ⟨p, c, _, _, rfl, hP2.same s3, by omega, .inr ⟨l2, _, rfl, a3, a4, SqL.of upd_same, by show 0 < 7; decide, by show 7 ≤ 1000; decide, fun H2 v hv hP3 hK3 => ?_⟩⟩
    obtain ⟨gv, bv⟩ := odd v hv
    have gv2 := (gv.same s3).kp hK3
    have k2 := (((hK1.trans (Kp.of s1)).trans (Kp.of s2)).trans (Kp.of s3)).trans hK3
    clear odd gv
    have hb : BadV (ss.getD n ("", [])).2 v := by
      rw [List.getD_eq_getElem?_getD, List.getElem?_eq_getElem hn]
      exact bv _ (gp.2.2.2 _ (List.getElem_mem hn)).2.2.2
    have gv3 : Good K 300 v H2 := Good.ky gv2 (.of hid_le)
    have sqt2 : SqT K H2 t (cs.map ansV) := k2.sqT hP sqt
    have sqp2 := at1 k2
    have plan2 : ∀ (i : Nat) (h : i < ss.length), ∃ a b, xs[i]? = some (.ref a) ∧ SqT K H2 a [.str ss[i].1, .ref b] ∧ SqT K H2 b (ss[i].2.map V.str) := fun i h => by
      obtain ⟨a, b, e, s1, s2⟩ := at_ i h
      exact ⟨a, b, e, (Ky.of ((hid_kp k2).trans hid_le)).sqT s1, (Ky.of ((hid_kp k2).trans hid_le)).sqT s2⟩
    have lcs : (cs.map ansV).length = ss.length := by rw [List.length_map, lc]
    have ag : ∀ {H' : Hp}, ∀ x ∈ cs.map ansV, Good K 300 x H' := ans_good gp lc ao
    clear at1 at_ s1 s2 s3
    generalize cs.map ansV = us at sqt2 lcs ag
    have sl5 : 6 ≤ sizeLine := by decide
    -- codes and None
    refine ⟨.ref t, rfl, (by show 1 ≤ sizeLine; decide), fun u nu => ?_⟩
    have s1 := same_upd nu (o := .tup [.non])
    refine ⟨t, u, us, _, rfl, rfl, (Ky.of s1).sqT sqt2, SqT.of upd_same, by show us.length + 1 ≤ sizeLine; omega, fun H3 b3 s3 sq3 => ?_⟩
    have o3 : OddV K ss H3 (.ref b3) := odd_len sq3 (fun x hx => (List.mem_append.mp hx).elim (fun h => ag x h) (fun h => by rw [List.mem_singleton.mp h]; exact ⟨.none, .non, rfl, by rw [wt]; omega⟩)) (by rw [List.length_append]; show us.length + 1 ≤ 6; omega) (by rw [List.length_append]; show us.length + 1 ≠ _; omega)
    have S3 := s1.trans s3
    -- codes[1:]
    refine ⟨.ref t, rfl, 1, rfl, t, us, rfl, (Ky.of S3).sqT sqt2, fun H4 b4 s4 sq4 => ?_⟩
    have o4 : OddV K ss H4 (.ref b4) := odd_len sq4 (fun x hx => ag x (cut_mem hx)) (by rw [cut_from1 (by omega)]; omega) (by rw [cut_from1 (by omega)]; omega)
    have S4 := S3.trans s4
    -- list(codes)
    refine ⟨.ref t, rfl, t, us, rfl, .inr ((Ky.of S4).sqT sqt2), fun b5 nb5 => ?_⟩
    have s5 := same_upd nb5 (o := .lst us)
    have S5 := S4.trans s5
    have o5 : OddV K ss _ (.ref b5) := odd_lst (SqL.of (upd_same (H := H4) (a := b5) (o := .lst us))) ag (by omega)
    -- ()
    refine ⟨(by show 0 ≤ sizeLine; decide), fun b6 nb6 => ?_⟩
    have s6 := same_upd nb6 (o := .tup [])
    have S6 := S5.trans s6
    have o6 : OddV K ss _ (.ref b6) := odd_len (SqT.of (upd_same (H := upd H4 b5 (.lst us)) (a := b6) (o := .tup []))) (fun x hx => absurd hx List.not_mem_nil) (by decide) (by show 0 ≠ _; omega)
    have o56 := o5.ky (Ky.of s6)
    have s46 := s5.trans s6
    generalize upd (upd H4 b5 (.lst us)) b6 (.tup []) = H6 at S6 o6 o56 s46 ⊢
    -- one put in
    refine ⟨.ref t, rfl, .int (n : Nat), rfl, _, rfl, t, us, rfl, (Ky.of S6).sqT sqt2, fun H7 b7 s7 sq7 => ?_⟩
    have S7 := S6.trans s7
    refine ⟨v, rfl, (by show 1 ≤ sizeLine; decide), fun u8 nu8 => ?_⟩
    have s8 := same_upd nu8 (o := .tup [v])
    have c7 : (cutV us none (some ((n : Nat) : Int))).length = n := cut_upto (by omega)
    refine ⟨b7, u8, _, _, rfl, rfl, (Ky.of s8).sqT sq7, SqT.of upd_same, by rw [c7]; show n + 1 ≤ sizeLine; omega, fun H9 b9 s9 sq9 => ?_⟩
    have S9 := (S7.trans s8).trans s9
    refine ⟨.ref t, rfl, .int (n : Nat), rfl, _, 1, rfl, rfl, _, rfl, t, us, rfl, (Ky.of S9).sqT sqt2, fun H10 b10 s10 sq10 => ?_⟩
    have c10 : (cutV us (some (((n : Nat) : Int) + 1)) none).length = us.length - (n + 1) := cut_rest (by omega)
    refine ⟨b9, b10, _, _, rfl, rfl, (Ky.of s10).sqT sq9, sq10, by rw [List.length_append, c7, c10]; show n + 1 + _ ≤ sizeLine; omega, fun H11 b11 s11 sq11 => ?_⟩
    have S11 := (S9.trans s10).trans s11
    have s411 := ((((s46.trans s7).trans s8).trans s9).trans s10).trans s11
    have s611 := (((s7.trans s8).trans s9).trans s10).trans s11
    have o11 : OddV K ss H11 (.ref b11) := odd_at (k := n) (v := v) sq11 (fun x hx => (List.mem_append.mp hx).elim (fun h => (List.mem_append.mp h).elim (fun h => ag x (cut_mem h)) (fun h => by rw [List.mem_singleton.mp h]; exact gv3.ky (Ky.of S11))) (fun h => ag x (cut_mem h))) (by rw [List.length_append, List.length_append, c7, c10]; show n + 1 + _ ≤ 6; omega) hn (splice_at (by omega)) hb
    have all11 : ∀ x ∈ [V.ref b3, V.ref b4, V.ref b5, V.non, V.str "codes", V.ref b6, V.ref b11], OddV K ss H11 x := by
      intro x hx
      simp only [List.mem_cons, List.mem_nil_iff, or_false] at hx
      rcases hx with rfl | rfl | rfl | rfl | rfl | rfl | rfl
      · exact o3.ky (Ky.of (s4.trans s411))
      · exact o4.ky (Ky.of s411)
      · exact o56.ky (Ky.of s611)
      · exact ⟨.none, .non, rfl, by rw [wt]; omega, rfl⟩
      · exact ⟨.str "codes", .str _, by decide +kernel, by decide +kernel, rfl⟩
      · exact o6.ky (Ky.of s611)
      · exact o11
    refine ⟨(by show 7 ≤ sizeLine; decide), fun o no => ?_⟩
    have so := same_upd no (o := .lst [V.ref b3, V.ref b4, V.ref b5, V.non, V.str "codes", V.ref b6, V.ref b11])
    clear o3 o4 o5 o6 o56 o11
    have So := S11.trans so
    have ho : (upd H11 o (.lst [V.ref b3, V.ref b4, V.ref b5, V.non, V.str "codes", V.ref b6, V.ref b11])) o = some (.lst [V.ref b3, V.ref b4, V.ref b5, V.non, V.str "codes", V.ref b6, V.ref b11]) := upd_same
    have hl : ([V.ref b3, V.ref b4, V.ref b5, V.non, V.str "codes", V.ref b6, V.ref b11]).length = 7 := rfl
    generalize upd H11 o (.lst [V.ref b3, V.ref b4, V.ref b5, V.non, V.str "codes", V.ref b6, V.ref b11]) = Ho at so So ho ⊢
    generalize [V.ref b3, V.ref b4, V.ref b5, V.non, V.str "codes", V.ref b6, V.ref b11] = ys at all11 ho hl
    -- the last code of the sort ahead
    obtain ⟨j, hj, ej⟩ := at_pred (xs := xs) (k := n) (by omega)
    obtain ⟨aj, bj, xj, sqj, sqbj⟩ := plan2 j (by omega)
    obtain ⟨an, bn, xn, sqn, sqbn⟩ := plan2 n hn
    have gj := gp.2.2.2 _ (List.getElem_mem (show j < ss.length by omega))
    have gn := gp.2.2.2 _ (List.getElem_mem hn)
    have lj := gj.2.2.2.1
    obtain ⟨z, hz, ez⟩ : ∃ z, z ∈ (ss[j]'(by omega)).2 ∧ atI ((ss[j]'(by omega)).2.map V.str) (-1) = some (.str z) := ⟨(ss[j]'(by omega)).2[(ss[j]'(by omega)).2.length - 1]'(by omega), List.getElem_mem _, by rw [at_last (by rw [List.length_map]; omega), List.getElem_map]; simp only [List.length_map]⟩
    have gz := gj.2.2.2.2.2.2 z hz
    refine ⟨.ref tp, rfl, .int (n : Nat), rfl, _, 1, rfl, rfl, tp, xs, _, _, rfl, rfl, (Ky.of So).sqT sqp2, ej.trans xj, aj, _, 1, _, rfl, rfl, (Ky.of So).sqT sqj, atI_nat (j := 1) rfl, _, rfl, bj, _, -1, .str z, rfl, rfl, (Ky.of So).sqT sqbj, ez, ?_⟩
    refine ⟨.str z, rfl, .ref tp, rfl, .int (n : Nat), rfl, tp, xs, _, _, rfl, rfl, (Ky.of So).sqT sqp2, atI_nat xn, an, _, 1, _, rfl, rfl, (Ky.of So).sqT sqn, atI_nat (j := 1) rfl, .str z, _, bn, .str z, rfl, (Ky.of So).sqT sqbn, lets_pl gz.2.2, fun y hy => (gn.2.2.2.2.2.2 y hy).2.2, _, rfl, ite2 (fun e => ?_) (fun e => ?_)⟩
    · have nz : z ∉ (ss.getD n ("", [])).2 := fun hz => by
        have e2 : (!decide (z ∈ ss[n].2)) = true := e
        rw [List.getD_eq_getElem?_getD, List.getElem?_eq_getElem hn] at hz
        have hz2 : z ∈ ss[n].2 := hz
        rw [decide_eq_true hz2] at e2
        cases e2
      refine ⟨.ref o, rfl, .inl ⟨rfl, _, SqL.of ho⟩, ?_⟩
      refine ⟨.ref t, rfl, .int (n : Nat), rfl, _, rfl, t, us, rfl, (Ky.of So).sqT sqt2, fun H12 b12 s12 sq12 => ?_⟩
      refine ⟨.str z, rfl, (by show 1 ≤ sizeLine; decide), fun u13 nu13 => ?_⟩
      have s13 := same_upd nu13 (o := .tup [V.str z])
      refine ⟨b12, u13, _, _, rfl, rfl, (Ky.of s13).sqT sq12, SqT.of upd_same, by rw [c7]; show n + 1 ≤ sizeLine; omega, fun H14 b14 s14 sq14 => ?_⟩
      have S14 := ((So.trans s12).trans s13).trans s14
      refine ⟨.ref t, rfl, .int (n : Nat), rfl, _, 1, rfl, rfl, _, rfl, t, us, rfl, (Ky.of S14).sqT sqt2, fun H15 b15 s15 sq15 => ?_⟩
      refine ⟨b14, b15, _, _, rfl, rfl, (Ky.of s15).sqT sq14, sq15, by rw [List.length_append, c7, c10]; show n + 1 + _ ≤ sizeLine; omega, fun H16 b16 s16 sq16 => ?_⟩
      have so16 := ((((s12.trans s13).trans s14).trans s15).trans s16)
      have ho16 := so16 _ _ ho
      refine ⟨o, _, _, rfl, rfl, ho16, by rw [hl]; decide, ?_⟩
      have sm : Same H11 (upd H16 o (.lst (ys ++ [V.ref b16]))) := fun b' o' e' => by
        rw [upd_ne (ne_of_none e' no)]
        exact so16 _ _ (so _ _ e')
      have hm : (upd H16 o (.lst (ys ++ [V.ref b16]))) o = some (.lst (ys ++ [V.ref b16])) := upd_same
      have allm : ∀ x ∈ ys ++ [V.ref b16], OddV K ss (upd H16 o (.lst (ys ++ [V.ref b16]))) x := fun x hx => by
        rcases List.mem_append.mp hx with hx | hx
        · exact (all11 x hx).ky (Ky.of sm)
        · rw [List.mem_singleton.mp hx]
          exact odd_at (k := n) (v := .str z) (sqT_updL sq16 ho16) (fun x hx => (List.mem_append.mp hx).elim (fun h => (List.mem_append.mp h).elim (fun h => ag x (cut_mem h)) (fun h => by rw [List.mem_singleton.mp h]; exact ⟨.str z, .str z, lets_pl gz.2.2, by rw [wt]; have := gz.2.1; omega⟩)) (fun h => ag x (cut_mem h))) (by rw [List.length_append, List.length_append, c7, c10]; show n + 1 + _ ≤ 6; omega) hn (splice_at (by omega)) nz
      have hl2 : (ys ++ [V.ref b16]).length ≤ 8 := by rw [List.length_append, hl]; exact Nat.le_refl 8
      generalize upd H16 o (.lst (ys ++ [V.ref b16])) = Hm at sm hm allm ⊢
      generalize ys ++ [V.ref b16] = zs at hm allm hl2 ⊢
      have Sm := S11.trans sm
      clear so16 ho16 s12 s13 s14 s15 s16 all11
      refine ⟨.ref o, rfl, o, rfl, ⟨_, SqL.of hm⟩, fun E nE => ?_⟩
      refine lc_list (K := K) (a := o) (xs := zs) (fun i H' => ∃ acc, Same Hm H' ∧ H' E = some (.lst acc) ∧ acc.length ≤ i ∧ ∀ x ∈ acc, x ∈ zs) ⟨[], same_upd nE, upd_same, Nat.le_refl _, fun x hx => absurd hx List.not_mem_nil⟩ (fun i H' _ h => (Ky.of h.choose_spec.1).sqL (SqL.of hm)) (fun i x H' hx h => ?_) (fun H' h => ?_)
      · obtain ⟨acc, sa, ha, la, oa⟩ := h
        obtain ⟨d, hd, pd, wd, nd⟩ := (allm x (List.mem_of_getElem? hx)).ky (Ky.of sa)
        have hi : i < zs.length := (List.getElem?_eq_some_iff.mp hx).1
        obtain ⟨ds, e1, e2, e3⟩ := goods (H := H') ag
        have w5 : us.length * (300 + 2) ≤ 4 * 302 := Nat.mul_le_mul_right _ (by omega)
        refine ⟨rfl, x, rfl, .ref t, rfl, d, .tuple ds, hd, .tup ((Ky.of (Sm.trans sa)).sqT sqt2) e1, shaped_of pd wd, shaped_of (by rw [pl]; exact e2) (by rw [wt]; omega), _, rfl, ite2 (fun _ => ?_) (fun _ => ?_)⟩
        · have sE : Same Hm (upd H' E (.lst (acc ++ [x]))) := fun b' o' e' => by
            rw [upd_ne (ne_of_none e' nE)]
            exact sa _ _ e'
          refine ⟨_, rfl, acc, ha, small1000 (by omega), acc ++ [x], sE, upd_same, by rw [List.length_append]; show acc.length + 1 ≤ _; omega, fun y hy => ?_⟩
          exact (List.mem_append.mp hy).elim (fun h => oa y h) (fun h => by rw [List.mem_singleton.mp h]; exact List.mem_of_getElem? hx)
        · exact ⟨acc, sa, ha, by omega, oa⟩
      · obtain ⟨acc, sa, ha, la, oa⟩ := h
        exact q _ E acc (k2.trans (Kp.of (Sm.trans sa))) ((hP3.same (Sm.trans sa)).le (by omega)) ha (fun x hx => (allm x (oa x hx)).ky (Ky.of sa))
    · have sm : Same H11 Ho := so
      have hm := ho
      have allm : ∀ x ∈ ys, OddV K ss Ho x := fun x hx => (all11 x hx).ky (Ky.of so)
      have hl2 : ys.length ≤ 8 := by rw [hl]; decide
      generalize Ho = Hm at sm hm allm ⊢
      generalize ys = zs at hm allm hl2 ⊢
      have Sm := S11.trans sm
      refine ⟨.ref o, rfl, o, rfl, ⟨_, SqL.of hm⟩, fun E nE => ?_⟩
      refine lc_list (K := K) (a := o) (xs := zs) (fun i H' => ∃ acc, Same Hm H' ∧ H' E = some (.lst acc) ∧ acc.length ≤ i ∧ ∀ x ∈ acc, x ∈ zs) ⟨[], same_upd nE, upd_same, Nat.le_refl _, fun x hx => absurd hx List.not_mem_nil⟩ (fun i H' _ h => (Ky.of h.choose_spec.1).sqL (SqL.of hm)) (fun i x H' hx h => ?_) (fun H' h => ?_)
      · obtain ⟨acc, sa, ha, la, oa⟩ := h
        obtain ⟨d, hd, pd, wd, nd⟩ := (allm x (List.mem_of_getElem? hx)).ky (Ky.of sa)
        have hi : i < zs.length := (List.getElem?_eq_some_iff.mp hx).1
        obtain ⟨ds, e1, e2, e3⟩ := goods (H := H') ag
        have w5 : us.length * (300 + 2) ≤ 4 * 302 := Nat.mul_le_mul_right _ (by omega)
        refine ⟨rfl, x, rfl, .ref t, rfl, d, .tuple ds, hd, .tup ((Ky.of (Sm.trans sa)).sqT sqt2) e1, shaped_of pd wd, shaped_of (by rw [pl]; exact e2) (by rw [wt]; omega), _, rfl, ite2 (fun _ => ?_) (fun _ => ?_)⟩
        · have sE : Same Hm (upd H' E (.lst (acc ++ [x]))) := fun b' o' e' => by
            rw [upd_ne (ne_of_none e' nE)]
            exact sa _ _ e'
          refine ⟨_, rfl, acc, ha, small1000 (by omega), acc ++ [x], sE, upd_same, by rw [List.length_append]; show acc.length + 1 ≤ _; omega, fun y hy => ?_⟩
          exact (List.mem_append.mp hy).elim (fun h => oa y h) (fun h => by rw [List.mem_singleton.mp h]; exact List.mem_of_getElem? hx)
        · exact ⟨acc, sa, ha, by omega, oa⟩
      · obtain ⟨acc, sa, ha, la, oa⟩ := h
        exact q _ E acc (k2.trans (Kp.of (Sm.trans sa))) ((hP3.same (Sm.trans sa)).le (by omega)) ha (fun x hx => (allm x (oa x hx)).ky (Ky.of sa))
end
end Cv
set_option Elab.async false
set_option linter.all false
set_option maxRecDepth 100000
set_option maxHeartbeats 1000000
namespace Cv
open PySem PySem.Spec PyProof.Rows L2
section
variable {X : Cx}
/-- repr(x), x any data, where nothing is being shown -/
theorem call_reprV (hg : X.A.guards = some []) : CallR X (.builtin "repr") (fun xs H Q => ∃ (v : V) (d : PyData), xs = [v] ∧ Dp X.K H v d ∧ d.showable = true ∧ d.hasDict = false ∧ X.A.units + (d.depth + 1) < cLine ∧ d.shown.length ≤ sizeLine ∧ Q (.str d.shown) H) := by
  intro pins s σ H xs us Q I r h
  obtain ⟨v, d, rfl, hd, h1, h2, h3, h4, q⟩ := h
  cases hd with
  | non =>
    obtain ⟨u, rfl, rx⟩ := vals1 r
    obtain rfl : u = Value.none := rx
    exact PySem.P.repr_of_none ⟨.str _, H, I.tok _, ⟨_, rfl⟩, q⟩
  | bl b =>
    obtain ⟨u, rfl, rx⟩ := vals1 r
    obtain rfl : u = Value.bool b := rx
    refine PySem.P.repr_of_bool ⟨.str _, H, I.tok _, ⟨_, rfl⟩, ?_⟩
    cases b
    · exact q
    · exact q
  | int i =>
    obtain ⟨u, rfl, t, rfl⟩ := vals1 r
    exact PySem.P.repr_of_int (by simpa only [PyData.showable, decide_eq_true_iff] using h1) ⟨.str _, H, I.tok _, ⟨_, rfl⟩, q⟩
  | str z =>
    obtain ⟨u, rfl, t, rfl⟩ := vals1 r
    exact PySem.P.repr_of_str ⟨.str _, H, I.tok _, ⟨_, rfl⟩, q⟩ h4
  | lst a b => exact call_reprD hg pins s σ H _ us Q I r ⟨_, _, rfl, .lst a b, h1, h2, h3, h4, q⟩
  | tup a b => exact call_reprD hg pins s σ H _ us Q I r ⟨_, _, rfl, .tup a b, h1, h2, h3, h4, q⟩
end
theorem Pur.ky {H H' : Hp} {p c : Addr} {T : Nat} (h : Pur H p c T) (k : Ky H H') : Pur H' p c T := by
  obtain ⟨cs, n, hp, hc, r⟩ := h
  exact ⟨cs, n, k _ _ (fun _ z => nomatch z) hp, k _ _ (fun _ z => nomatch z) hc, r⟩
theorem tabG_kp {P : Addr} {H H' : Hp} {p c : Addr} {T : Nat} (h : GxR.TabG H P) (hP : Pur H p c T) (k : Kp p c H H') : GxR.TabG H' P := by
  obtain ⟨ps, h1, r1⟩ := h
  obtain ⟨cs, n, hp, hc, _⟩ := hP
  exact ⟨ps, k _ _ (ne_of h1 hp fun z => nomatch z) (ne_of h1 hc fun z => nomatch z) h1, r1⟩
/-- how a heap stands to the one behind which plan and book were drawn -/
structure Stt (p c P1 P2 P3 : Addr) (H0 : Hp) (T : Nat) (H : Hp) : Prop where
  pur : Pur H p c T
  ky : Ky H0 (hid p c H)
  tab : Tabs P1 P2 H
  t3 : GxR.TabG H P3
section
variable {p c P1 P2 P3 : Addr} {H0 H H' : Hp} {T T' : Nat}
theorem Stt.step (h : Stt p c P1 P2 P3 H0 T H) (k : Ky H H') : Stt p c P1 P2 P3 H0 T H' := ⟨h.pur.ky k, h.ky.trans (hid_ky k), h.tab.ky k, k.tb _ h.t3⟩
theorem Stt.draw (h : Stt p c P1 P2 P3 H0 T H) (k : Kp p c H H') (q : Pur H' p c T') : Stt p c P1 P2 P3 H0 T' H' := ⟨q, h.ky.trans (Ky.of (hid_kp k)), ⟨tabG_kp h.tab.1 h.pur k, tabG_kp h.tab.2 h.pur k⟩, tabG_kp h.t3 h.pur k⟩
theorem Stt.low (h : Stt p c P1 P2 P3 H0 T H) : Ky H0 H := h.ky.trans (Ky.of hid_le)
theorem Stt.le (h : Stt p c P1 P2 P3 H0 T H) (l : T ≤ T') : Stt p c P1 P2 P3 H0 T' H := ⟨h.pur.le l, h.ky, h.tab, h.t3⟩
end
/-! ### lists of small numbers, as data -/
def intsD (l : List Int) : PyData := .list (l.map PyData.int)
theorem ints_small {l : List Int} (h : ∀ i ∈ l, i.natAbs ≤ 1000) (n : l.length ≤ 100) : pl (intsD l) = true ∧ wt (intsD l) ≤ 5000 := by
  refine ⟨?_, ?_⟩
  · unfold intsD
    rw [pl]
    refine pls_of fun d hd => ?_
    obtain ⟨i, hi, rfl⟩ := List.mem_map.mp hd
    rw [pl]
    exact decide_eq_true (by have := h i hi; omega)
  · have w := wts_of (n := 40) (ds := l.map PyData.int) fun d hd => by
      obtain ⟨i, hi, rfl⟩ := List.mem_map.mp hd
      rw [wt]
      omega
    rw [List.length_map] at w
    have w2 : l.length * (40 + 2) ≤ 100 * 42 := Nat.mul_le_mul_right _ n
    unfold intsD
    rw [wt]
    omega
theorem ints_dpL {K : PySem.W.Frag} {H : Hp} {a : Addr} {l : List Int} (h : H a = some (.lst (l.map V.int))) : Dp K H (.ref a) (intsD l) := .lst (SqL.of h) (ints_dpA l)
def gapsI (as : List (Option Str)) : List Int := ((List.range as.length).filter (noAns as)).map Int.ofNat
theorem gaps_eq (as : List (Option Str)) : gapsV as = (gapsI as).map V.int := by
  unfold gapsV gapsI
  rw [List.map_map]
  rfl
def fitI (rs : List Rec) (cs : List (Option Str)) : List Int := ((List.range rs.length).filter (fitP rs cs)).map Int.ofNat
theorem fit_eq (rs : List Rec) (cs : List (Option Str)) : fitV rs cs = (fitI rs cs).map V.int := by
  unfold fitV fitI
  rw [List.map_map]
  rfl
theorem some_small {n : Nat} {f : Nat → Bool} (h : n ≤ 100) : (∀ i ∈ ((List.range n).filter f).map Int.ofNat, i.natAbs ≤ 1000) ∧ (((List.range n).filter f).map Int.ofNat).length ≤ 100 := by
  refine ⟨fun i hi => ?_, ?_⟩
  · obtain ⟨j, hj, rfl⟩ := List.mem_map.mp hi
    have := List.mem_range.mp (List.mem_filter.mp hj).1
    show (Int.ofNat j).natAbs ≤ 1000
    rw [Int.natAbs_ofNat']
    omega
  · rw [List.length_map]
    have := List.length_filter_le f (List.range n)
    rw [List.length_range] at this
    omega
theorem tal_small {ss : List (Str × List Str)} {rs : List Rec} (gp : GoodP ss) (l60 : rs.length ≤ 60) : pl (talD ss rs) = true ∧ wt (talD ss rs) ≤ 30000 := by
  have one : ∀ j, j < ss.length → pl (intsD (tallyI (col rs j) (ss.getD j ("", [])).2)) = true ∧ wt (intsD (tallyI (col rs j) (ss.getD j ("", [])).2)) ≤ 5000 := fun j hj => by
    refine ints_small (fun i hi => ?_) ?_
    · obtain ⟨x, _, rfl⟩ := List.mem_map.mp hi
      have := List.countP_le_length (p := fun a => decide (a = x)) (l := col rs j)
      have e : (col rs j).length = rs.length := by
        unfold col
        rw [List.length_map]
      unfold cntI
      omega
    · have gi := gp.2.2.2 _ (List.getElem_mem hj)
      have l6 := gi.2.2.2.2.1
      rw [List.getD_eq_getElem?_getD, List.getElem?_eq_getElem hj]
      unfold tallyI
      rw [List.length_map, List.length_append, List.length_map]
      show ss[j].2.length + 1 ≤ 100
      omega
  have g4 := gp.2.1
  refine ⟨?_, ?_⟩
  · unfold talD
    rw [pl]
    refine pls_of fun d hd => ?_
    obtain ⟨j, hj, rfl⟩ := List.mem_map.mp hd
    exact (one j (List.mem_range.mp hj)).1
  · have w := wts_of (n := 5000) (ds := (List.range ss.length).map fun j => .list ((tallyI (col rs j) (ss.getD j ("", [])).2).map PyData.int)) fun d hd => by
      obtain ⟨j, hj, rfl⟩ := List.mem_map.mp hd
      exact (one j (List.mem_range.mp hj)).2
    rw [List.length_map, List.length_range] at w
    have w2 : ss.length * (5000 + 2) ≤ 4 * 5002 := Nat.mul_le_mul_right _ g4
    unfold talD
    rw [wt]
    omega
theorem cut_last {as : List (Option Str)} {m : Int} : cutV (as.map ansV ++ [.int m]) none (some (-1)) = as.map ansV := by
  unfold cutV
  have e : HT.sIx (as.map ansV ++ [V.int m]).length (as.map ansV ++ [V.int m]).length (some (-1)) = as.length := by
    show (if (-1 : Int) < 0 then ((-1 : Int) + ((as.map ansV ++ [V.int m]).length : Int)).toNat else min (-1 : Int).toNat (as.map ansV ++ [V.int m]).length) = _
    rw [if_pos (by decide), List.length_append, List.length_map]
    show ((-1 : Int) + ((as.length + 1 : Nat) : Int)).toNat = _
    omega
  rw [e, HT.sIx_none, List.drop_zero, Nat.sub_zero, List.take_append_of_le_length (by rw [List.length_map]; exact Nat.le_refl _), List.take_of_length_le (by rw [List.length_map]; exact Nat.le_refl _)]
theorem ans_dpA {K : PySem.W.Frag} {H : Hp} : ∀ cs : List (Option Str), DpAll K H (cs.map ansV) (cs.map ansD)
  | [] => .nil
  | none :: r => .cons .non (ans_dpA r)
  | some z :: r => .cons (.str z) (ans_dpA r)
theorem codes_ok {ss : List (Str × List Str)} {cs : List (Option Str)} (gp : GoodP ss) (h1 : cs.length = ss.length) (h2 : AnsOk ss cs) : areCodes ss (.tuple (cs.map ansD)) = true ∧ pl (.tuple (cs.map ansD)) = true := by
  refine ⟨?_, ?_⟩
  · show (decide ((cs.map ansD).length = ss.length) && (firstK ss.length (badCode ss (cs.map ansD))).isNone) = true
    have e1 : firstK ss.length (badCode ss (cs.map ansD)) = none := firstK_none fun k hk => by
      unfold badCode
      rw [List.getD_eq_getElem?_getD, List.getElem?_map, List.getElem?_eq_getElem (by omega)]
      cases ea : cs[k]'(by omega) with
      | none => rfl
      | some z =>
        show (!inCodes _ (.str z)) = false
        show (!decide (z ∈ _)) = false
        rw [decide_eq_true (h2 k z (by rw [List.getElem?_eq_getElem (by omega), ea]))]
        rfl
    rw [e1, List.length_map, decide_eq_true h1]
    rfl
  · rw [pl]
    refine pls_of fun d hd => ?_
    obtain ⟨a, ha, rfl⟩ := List.mem_map.mp hd
    cases a with
    | none => rfl
    | some z =>
      obtain ⟨i, hi, e⟩ := List.mem_iff_getElem.mp ha
      have his : i < ss.length := by omega
      have hz := h2 i z (by rw [List.getElem?_eq_getElem hi, e])
      rw [List.getD_eq_getElem?_getD, List.getElem?_eq_getElem his] at hz
      exact lets_pl ((gp.2.2.2 _ (List.getElem_mem his)).2.2.2.2.2.2 z hz).2.2
/-! ### the law -/
abbrev sLaw : Stmt := topS 53
abbrev nLaw : List Str := ["_law_script", "_law_purse_here", "_law_turn", "_law_plan_here", "_law_book_here", "_law_kept", "_law_record_here", "_law_told", "_law_k", "_law_again", "_law_lots_here", "_law_shape", "_law_codes_here", "_law_code", "_law_odd"]
theorem scLaw : FnScope nLaw ["_law_script"] (defScope sLaw) := ⟨rfl, rfl, rfl, by decide +kernel, rfl, by decide +kernel, by decide +kernel⟩
def spLaw (K : PySem.W.Frag) (P1 P2 P3 : Addr) : Sp := fun vs H Q _ => ∃ (a : Addr) (ns : List Int), vs = [.ref a] ∧ SqL K H a (ns.map V.int) ∧ Tabs P1 P2 H ∧ GxR.TabG H P3 ∧ ∀ H', Q (.bl true) H'
section
variable {P : Program} {w : World} {K : PySem.W.Frag} {mg : Str → Option Value} {base : Heap}
theorem ok_law {f P1 P2 P3 cC f1 f2 f3 f4 f5 f6 f7 f8 f9 f10 f11 f12 f13 : Addr} {fd d1 d2 d3 d4 d5 d6 d7 d8 d9 d10 d11 d12 d13 : FuncData} {k : Nat} (F : Fun K "law" "law" sLaw f fd) (A1 : At P w K mg base CX0 k "_law_purse" f1 d1 ["_law_script"] (spPurse K)) (A2 : At P w K mg base CX0 k "_law_plan" f2 d2 ["_law_purse_here", "_law_least"] spPlan)
    (A3 : At P w K mg base CX0 k "_law_record" f3 d3 ["_law_purse_here", "_law_plan_here"] (spRec K)) (A4 : At P w K mg base CX0 k "_law_book" f4 d4 ["_law_purse_here", "_law_plan_here"] (spBk K))
    (A5 : At P w K mg base (CX P w) k "gaps" f5 d5 ["plan", "record"] (spGa K P1 P2)) (A6 : At P w K mg base (CX P w) k "tallies" f6 d6 ["plan", "book"] (spTs K P1 P2)) (A7 : At P w K mg base (CX P w) k "fitting" f7 d7 ["plan", "book", "codes"] (spFg cC K P1 P2 P3))
    (A8 : At P w K mg base CX0 k "_law_tallied" f8 d8 ["_law_plan_here", "_law_book_here"] (spLt K)) (A9 : At P w K mg base CX0 k "_law_fitting" f9 d9 ["_law_book_here", "_law_codes_here"] (spLf K)) (A10 : At P w K mg base CX0 k "_law_odd_codes" f10 d10 ["_law_purse_here", "_law_plan_here", "_law_codes_here"] (spOd K))
    (A11 : At P w K mg base CX0 k "_law_refused" f11 d11 ["_law_plan_here", "_law_book_here", "_law_codes_here"] (spRx K P1 P2 P3)) (A12 : At P w K mg base CX0 k "_law_draw" f12 d12 ["_law_purse_here", "_law_out_of"] spDraw) (A13 : At P w K mg base CX0 k "_law_pick" f13 d13 ["_law_purse_here", "_law_some"] (spPick K))
    (mr : mg "range" = none) (mp : mg "repr" = none) (mi : mg "int" = none) (ml : mg "len" = none) (mt : mg "tuple" = none) : FnAt callerA P w K mg base (k + 1) f fd ["_law_script"] (spLaw K P1 P2 P3) := by
  refine fn_at F scLaw (fun vs H Q E h => ?_) (fun cdv outer s H vs Q E hr h => ?_)
  · obtain ⟨a, ns, rfl, _⟩ := h
    rfl
  · obtain ⟨a, ns, rfl, hS, hT, hT3, q⟩ := h
    refine ⟨_, pss_cons (ps_set (i := 1) scLaw.nd rfl (.inr rfl) (pe_call A1.ok hr (by rfl) A1.g A1.kp A1.b .nil pass0 (pa_cons (pv 0) pa_nil)))
      (pss_cons (ps_for PassesOwn.never rfl (pi_range1 (by rfl) mr (pa_cons pe_int pa_nil)) (pg_name (i := 2) scLaw.nd rfl (.inl rfl))
        (pss_cons (ps_set (i := 3) scLaw.nd rfl (.inl rfl) (pe_call A2.ok hr (by rfl) A2.g A2.kp A2.b .nil pass0 (pa_cons (pv 1) (pa_cons pe_int pa_nil))))
        (pss_cons (ps_set (i := 4) scLaw.nd rfl (.inl rfl) (pe_call A4.ok hr (by rfl) A4.g A4.kp A4.b .nil pass0 (pa_cons (pv 1) (pa_cons (pv 3) pa_nil))))
        (pss_cons (ps_set (i := 5) scLaw.nd rfl (.inl rfl) (pe_callB (call_reprV rfl) (by rfl) mp (by decide +kernel) (pa_cons (pe_lst (pa_cons (pv 3) (pa_cons (pv 4) pa_nil))) pa_nil)))
        (pss_cons (ps_for PassesOwn.never rfl (pi_list (pe_slice sl_list (pv 4) po_none (po_some pe_int))) (pg_name (i := 6) scLaw.nd rfl (.inr rfl))
          (pss_cons (ps_set (i := 7) scLaw.nd rfl (.inl rfl) (pe_call A5.ok hr (by rfl) A5.g A5.kp A5.b .nil passF (pa_cons (pv 3) (pa_cons (pv 6) pa_nil))))
          (pss_cons (ps_if (pt_cmpR op_ne (pe_callB (call_reprV rfl) (by rfl) mp (by decide +kernel) (pa_cons (pv 7) pa_nil)) (pe_callB (call_reprV rfl) (by rfl) mp (by decide +kernel) (pa_cons (pe_lc (own := [("_law_k", 8)]) (g := gName 8) (tt := tTest (tOp (fun x y H Q => y = .non ∧ Q (.bl (decide (x = .non))) H) (tOp (rIxT K) (tVar 6) (tVar 8)) (tC .non))) (te := tVar 8) (by rfl) scLaw.nd
              (pi_range1 (by rfl) mr (pa_cons (pe_callB call_len_seq (by rfl) ml PySem.boot_len (pa_cons (pv 3) pa_nil)) pa_nil))
              (blkOk_by (own := [("_law_k", 8)]) (N := nLaw) (sc := defScope sLaw) (by decide +kernel)) (fun _ _ _ _ _ => pg_name (i := 8) scLaw.nd rfl (Or.inl rfl))
              (fun _ _ _ _ _ => pts_one (pt_cmpR op_isN (pe_ix ix_tup (pv 6) (pv 8) (fun _ _ => rfl)) pe_non rfl)) (fun _ _ _ _ _ => pv 8)) pa_nil)) (nomark _)) (pss_one (ps_ret pe_bl)) pss_nil)
          (pss_one (ps_expr (pe_bm PySem.F.plainAttrs_list PySem.F.slot_list_append PySem.F.type_list_append mt_append (pv 7) (pa_cons pe_int pa_nil)))))))
        (pss_cons (ps_for PassesOwn.never rfl (pi_range1 (by rfl) mr (pa_cons pe_int pa_nil)) (pg_name (i := 9) scLaw.nd rfl (.inl rfl))
          (pss_cons (ps_set (i := 7) scLaw.nd rfl (.inl rfl) (pe_call A6.ok hr (by rfl) A6.g A6.kp A6.b .nil passF (pa_cons (pv 3) (pa_cons (pv 4) pa_nil))))
          (pss_cons (ps_if (pt_cmpR op_ne (pe_callB (call_reprV rfl) (by rfl) mp (by decide +kernel) (pa_cons (pv 7) pa_nil)) (pe_callB (call_reprV rfl) (by rfl) mp (by decide +kernel) (pa_cons (pe_call A8.ok hr (by rfl) A8.g A8.kp A8.b .nil pass0 (pa_cons (pv 3) (pa_cons (pv 4) pa_nil))) pa_nil)) (nomark _)) (pss_one (ps_ret pe_bl)) pss_nil)
          (pss_cons (ps_for PassesOwn.never rfl (pi_list (pv 7)) (pg_name (i := 10) scLaw.nd rfl (.inl rfl)) (pss_one (ps_expr (pe_bm PySem.F.plainAttrs_list PySem.F.slot_list_append PySem.F.type_list_append mt_append (pv 10) (pa_cons pe_int pa_nil)))))
          (pss_one (ps_expr (pe_bm PySem.F.plainAttrs_list PySem.F.slot_list_append PySem.F.type_list_append mt_append (pv 7) (pa_cons pe_int pa_nil))))))))
        (pss_cons (ps_for PassesOwn.never rfl (pi_range1 (by rfl) mr (pa_cons pe_int pa_nil)) (pg_name (i := 9) scLaw.nd rfl (.inl rfl))
          (pss_cons (ps_set (i := 11) scLaw.nd rfl (.inl rfl) (pe_slice sl_tupG (pe_call A13.ok hr (by rfl) A13.g A13.kp A13.b .nil pass0 (pa_cons (pv 1) (pa_cons (pe_op op_cat (pv 4) (pe_lst (pa_cons (pe_call A3.ok hr (by rfl) A3.g A3.kp A3.b .nil pass0 (pa_cons (pv 1) (pa_cons (pv 3) pa_nil))) pa_nil))) pa_nil))) po_none (po_some (pe_un un_neg pe_int))))
          (pss_cons (ps_set (i := 12) scLaw.nd rfl (.inl rfl) (pe_callTy call_tuple_of (by rfl) mt (by decide +kernel) (pa_cons (pe_lc (own := [("_law_code", 13)]) (g := gName 13) (tt := tYes) (te := tOp (rIxL K) (tLst (tCons (tVar 13) (tCons (tC .non) tNil))) (tCB (fun xs H Q => (∃ i, xs = [.int i] ∧ Q (.int i) H) ∨ ∃ k, xs = [.bl k] ∧ Q (.int (if k then 1 else 0)) H) (tCons (tOp rEq (tCall spDraw [] (fun _ _ _ => False) (tCons (tVar 1) (tCons (tC (.int 2)) tNil))) (tC (.int 0))) tNil))) (by rfl) scLaw.nd
              (pi_tup (pv 11)) (blkOk_by (own := [("_law_code", 13)]) (N := nLaw) (sc := defScope sLaw) (by decide +kernel)) (fun _ _ _ _ _ => pg_name (i := 13) scLaw.nd rfl (Or.inl rfl)) (fun _ _ _ _ _ => pts_nil)
              (fun _ _ _ _ _ => pe_ix ix_list (pe_lst (pa_cons (pv 13) (pa_cons pe_non pa_nil))) (pe_callTy call_int1 (by rfl) mi (by decide +kernel) (pa_cons (pe_cmpR op_eq (pe_call A12.ok hr (by rfl) A12.g A12.kp A12.b .nil pass0 (pa_cons (pv 1) (pa_cons pe_int pa_nil))) pe_int (nomark _)) pa_nil)) (fun _ _ => rfl))) pa_nil)))
          (pss_cons (ps_set (i := 7) scLaw.nd rfl (.inl rfl) (pe_call A7.ok hr (by rfl) A7.g A7.kp A7.b .nil passF (pa_cons (pv 3) (pa_cons (pv 4) (pa_cons (pv 12) pa_nil)))))
          (pss_cons (ps_if (pt_cmpR op_ne (pe_callB (call_reprV rfl) (by rfl) mp (by decide +kernel) (pa_cons (pv 7) pa_nil)) (pe_callB (call_reprV rfl) (by rfl) mp (by decide +kernel) (pa_cons (pe_call A9.ok hr (by rfl) A9.g A9.kp A9.b .nil pass0 (pa_cons (pv 4) (pa_cons (pv 12) pa_nil))) pa_nil)) (nomark _)) (pss_one (ps_ret pe_bl)) pss_nil)
          (pss_cons (ps_expr (pe_bm PySem.F.plainAttrs_list PySem.F.slot_list_append PySem.F.type_list_append mt_append (pv 7) (pa_cons pe_int pa_nil)))
          (pss_cons (ps_if (pt_cmpR op_ne (pe_callB (call_reprV rfl) (by rfl) mp (by decide +kernel) (pa_cons (pe_call A7.ok hr (by rfl) A7.g A7.kp A7.b .nil passF (pa_cons (pv 3) (pa_cons (pv 4) (pa_cons (pv 12) pa_nil)))) pa_nil)) (pe_callB (call_reprV rfl) (by rfl) mp (by decide +kernel) (pa_cons (pe_call A9.ok hr (by rfl) A9.g A9.kp A9.b .nil pass0 (pa_cons (pv 4) (pa_cons (pv 12) pa_nil))) pa_nil)) (nomark _)) (pss_one (ps_ret pe_bl)) pss_nil)
          (pss_one (ps_for PassesOwn.never rfl (pi_list (pe_call A10.ok hr (by rfl) A10.g A10.kp A10.b .nil pass0 (pa_cons (pv 1) (pa_cons (pv 3) (pa_cons (pv 12) pa_nil))))) (pg_name (i := 14) scLaw.nd rfl (.inl rfl))
            (pss_one (ps_if (pt_not (pt_val (pe_call A11.ok hr (by rfl) A11.g A11.kp A11.b .nil pass0 (pa_cons (pv 3) (pa_cons (pv 4) (pa_cons (pv 14) pa_nil)))))) (pss_one (ps_ret pe_bl)) pss_nil)))))))))))
        (pss_one (ps_if (pt_cmpR op_ne (pe_callB (call_reprV rfl) (by rfl) mp (by decide +kernel) (pa_cons (pe_lst (pa_cons (pv 3) (pa_cons (pv 4) pa_nil))) pa_nil)) (pv 5) (nomark _)) (pss_one (ps_ret pe_bl)) pss_nil)))))))))
      (pss_one (ps_ret pe_bl))), ?_⟩
    have hu : (callerA.deeper (envOfC (Str.ofString "law") (defScope sLaw) s.heap.objs.size f cdv)).units ≤ 20 := Nat.le_of_ble_eq_true rfl
    have reprs : ∀ {d : PyData}, pl d = true → wt d ≤ 1600000 → d.showable = true ∧ d.hasDict = false ∧ (callerA.deeper (envOfC (Str.ofString "law") (defScope sLaw) s.heap.objs.size f cdv)).units + (d.depth + 1) < cLine ∧ d.shown.length ≤ sizeLine := fun {d} h1 h2 => by
      obtain ⟨a1, a2, a3, a4⟩ := shows d h1
      have hsl : sizeLine = 16777216 := by decide
      have hcl : cLine = 9900 := rfl
      exact ⟨a1, a2, by omega, by omega⟩
    -- the purse
    refine ⟨.ref a, rfl, a, ns, rfl, hS, fun H1 p c s1 np nc hP => ?_⟩
    have hT1 := hT.same s1
    have hT31 : GxR.TabG H1 P3 := (Ky.of s1).tb _ hT3
    refine ⟨6, rfl, by decide, by decide, ?_⟩
    refine for_range (lo := 0) (n := (6 : Int).toNat) (fun i σ H' => ∃ y2 y3 y4 y5 y6 y7 y8 y9 y10 y11 y12 y13 y14, σ = [some (.ref a), some (.ref p), y2, y3, y4, y5, y6, y7, y8, y9, y10, y11, y12, y13, y14] ∧ Pur H' p c (20000 * i) ∧ Tabs P1 P2 H' ∧ GxR.TabG H' P3)
      ⟨none, none, none, none, none, none, none, none, none, none, none, none, none, rfl, hP, hT1, hT31⟩ (fun i σ H' hi h => ?_) (fun σ H' h => q H')
    have hi6 : i < 6 := hi
    obtain ⟨y2, y3, y4, y5, y6, y7, y8, y9, y10, y11, y12, y13, y14, rfl, hP2, hT2, hT32⟩ := h
    -- a plan, a book
    refine ⟨.ref p, rfl, p, c, _, 1, rfl, by decide, by decide, hP2, by omega, fun H3 t xs ss nt ht l1 hss gp hP3 k3 => ?_⟩
    have hp3 : Dp K (hid p c H3) (.ref t) (planD ss) := .tup (hid_sqT hP3 (SqT.of ht)) (sorts_dp (paired_map (fun x s h => by
      obtain ⟨a, b, e, ha, hb⟩ := h
      exact ⟨a, b, e, by rw [hid_at (tup_ne hP3 ha).1 (tup_ne hP3 ha).2]; exact ha, by rw [hid_at (tup_ne hP3 hb).1 (tup_ne hP3 hb).2]; exact hb⟩) hss))
    refine ⟨.ref p, rfl, .ref t, rfl, p, c, _, .ref t, ss, rfl, hP3, by omega, hp3, gp, fun H5 l5 xs5 k5 hP5 hl5 l5p l5c ll5 hx5 => ?_⟩
    have k25 := k3.trans k5
    have st5 : Stt p c P1 P2 P3 (hid p c H5) (20000 * i + 1000 + 7000) H5 := ⟨hP5, Ky.refl, ⟨tabG_kp hT2.1 hP2 k25, tabG_kp hT2.2 hP2 k25⟩, tabG_kp hT32 hP2 k25⟩
    have hp0 : Dp K (hid p c H5) (.ref t) (planD ss) := (Ky.of (hid_kp k5)).dp _ _ hp3
    have hb0 : hid p c H5 l5 = some (.lst xs5) := by
      rw [hid_at l5p l5c]
      exact hl5
    obtain ⟨rs, prd0⟩ : ∃ rs, Paired (RecP K ss (hid p c H5)) xs5 rs := recs_of fun x hx => by
      obtain ⟨r, as, m, e, h1, h2⟩ := hx5 x hx
      exact ⟨r, as, m, e, hid_sqT hP5 h1, h2⟩
    have lrs : xs5.length = rs.length := paired_len prd0
    have l60 : rs.length ≤ 60 := by omega
    have g1 := gp.1
    have g4 := gp.2.1
    generalize hid p c H5 = H0 at st5 hp0 hb0 prd0
    have pln : ∀ {T : Nat} {H' : Hp}, Stt p c P1 P2 P3 H0 T H' → Dp K H' (.ref t) (planD ss) := fun st => st.low.dp _ _ hp0
    have bok : ∀ {T : Nat} {H' : Hp}, Stt p c P1 P2 P3 H0 T H' → H' l5 = some (.lst xs5) := fun st => st.low _ _ (fun _ z => nomatch z) hb0
    have prd : ∀ {T : Nat} {H' : Hp}, Stt p c P1 P2 P3 H0 T H' → Paired (RecP K ss H') xs5 rs := fun st => paired_map (fun _ _ h => h.ky st.low) prd0
    obtain ⟨_, pb, wb⟩ := book_ok gp (recs_ok prd0) l60
    obtain ⟨wp, pp⟩ := plan_wt gp
    obtain ⟨D0, hD0⟩ : ∃ D0 : PyData, D0 = .list [planD ss, bookD rs] := ⟨_, rfl⟩
    have plD : pl D0 = true := by
      rw [hD0]
      simp only [pl, pls, pp, pb, Bool.and_self]
    have wtD : wt D0 ≤ 1600000 := by
      rw [hD0]
      simp only [wt, wts]
      omega
    obtain ⟨n1, n2, n3, n4⟩ := reprs plD wtD
    have dpD : ∀ {T : Nat} {H9 : Hp} {lk : Addr}, Stt p c P1 P2 P3 H0 T H9 → H9 lk = some (.lst [.ref t, .ref l5]) → Dp K H9 (.ref lk) D0 := fun {T H9 lk} st e => by
      rw [hD0]
      exact .lst (SqL.of e) (.cons (pln st) (.cons (.lst (SqL.of (bok st)) (recs_dp (prd st))) .nil))
    refine ⟨.ref t, rfl, .ref l5, rfl, (by show 2 ≤ sizeLine; decide), fun lk nlk => ?_⟩
    have st6 := st5.step (Ky.of (same_upd nlk (o := .lst [.ref t, .ref l5])))
    refine ⟨.ref lk, D0, rfl, dpD st6 upd_same, n1, n2, n3, n4, ?_⟩
    generalize upd H5 lk (.lst [.ref t, .ref l5]) = H6 at st6 ⊢
    -- gaps
    refine ⟨.ref l5, rfl, 6, rfl, l5, xs5, rfl, SqL.of (bok st6), fun lb nlb => ?_⟩
    have st7 := st6.step (Ky.of (same_upd nlb (o := .lst (cutV xs5 none (some 6)))))
    have hlb : (upd H6 lb (.lst (cutV xs5 none (some 6)))) lb = some (.lst (cutV xs5 none (some 6))) := upd_same
    generalize upd H6 lb (.lst (cutV xs5 none (some 6))) = H7 at st7 hlb ⊢
    refine ⟨lb, rfl, ⟨_, SqL.of hlb⟩, ?_⟩
    refine for_it (walk_list (K := K) (a := lb) (xs := cutV xs5 none (some 6))) (fun j σ H' => ∃ z6 z7 z8 z9 z10 z11 z12 z13 z14, σ = [some (.ref a), some (.ref p), some (.int (0 + (i : Nat))), some (.ref t), some (.ref l5), some (.str D0.shown), z6, z7, z8, z9, z10, z11, z12, z13, z14] ∧ Ky H7 H') ⟨_, _, _, _, _, _, _, _, _, rfl, Ky.refl⟩ (fun j σ H' _ h => ?_) (fun j x σ H' H'' hj h hy => ?_) (fun σ H' h => ?_)
    · obtain ⟨_, _, _, _, _, _, _, _, _, _, k1⟩ := h
      exact SqL.of (k1 lb _ (fun _ z => nomatch z) hlb)
    · obtain ⟨rfl, hxj⟩ := hy
      obtain ⟨z6, z7, z8, z9, z10, z11, z12, z13, z14, rfl, k1⟩ := h
      have st8 := st7.step k1
      obtain ⟨jj, ejj⟩ : ∃ jj, xs5[jj]? = some x := by
        obtain ⟨jj, h1, h2⟩ := List.mem_iff_getElem.mp (cut_mem (List.mem_of_getElem? hxj))
        exact ⟨jj, by rw [List.getElem?_eq_getElem h1, h2]⟩
      obtain ⟨r, er, ar, rfl, sqr, ra⟩ := paired_get (prd st8) ejj
      refine ⟨.ref t, rfl, .ref ar, rfl, .ref t, ar, ss, r.1, r.2, rfl, pln st8, gp, sqr, ra, st8.tab, fun H9 D x9 fr hD => ?_⟩
      have st9 := st8.step x9.2
      obtain ⟨gI1, gI2⟩ := some_small (n := r.1.length) (f := noAns r.1) (by have := ra.1; omega)
      obtain ⟨m1, m2, m3, m4⟩ := reprs (ints_small gI1 gI2).1 (Nat.le_trans (ints_small gI1 gI2).2 (by decide))
      rw [gaps_eq] at hD
      have sqp9 := st9.low.dp _ _ hp0
      obtain ⟨tp, xp, ep, sqp, hxp⟩ := dp_tup sqp9
      cases ep
      have lxp : xp.length = ss.length := by
        have := dpAll_len hxp
        rw [List.length_map] at this
        exact this
      refine ⟨.ref D, rfl, .ref D, _, rfl, ints_dpL hD, m1, m2, m3, m4, ?_⟩
      refine ⟨.ref t, rfl, t, xp, rfl, .inr sqp, _, rfl, by omega, by omega, fun E nE => ?_⟩
      refine lc_range (lo := 0) (n := ((xp.length : Nat) : Int).toNat) (Grow H9 E (fil (List.range r.1.length) (noAns r.1) (fun k => V.int (k : Nat)))) (grow0 nE fil0) (fun n H10 hn g10 => ?_) (fun H10 g10 => ?_)
      · rw [Int.toNat_natCast] at hn
        rw [Int.zero_add]
        have hn2 : n < r.1.length := by
          have := ra.1
          omega
        refine ⟨rfl, .ref ar, rfl, .int (n : Nat), rfl, ar, _, _, _, rfl, rfl, (Ky.of g10.1).sqT ((x9.2).sqT sqr), ans_at hn2, rfl, _, rfl, ite2 (fun e14 => ?_) (fun e14 => ?_)⟩
        · have e15 : noAns r.1 n = true := (ans_non _).symm.trans e14
          exact ⟨_, rfl, put nE g10 (Same.refl _) (Nat.lt_of_le_of_lt fil_len (by rw [List.length_range]; exact small1000 (by have := ra.1; omega))) (fil_yes (rng_get hn2) e15)⟩
        · have e15 : noAns r.1 n = false := (ans_non _).symm.trans (Bool.eq_false_iff.mpr e14)
          exact left g10 (Same.refl _) (fil_no (rng_get hn2) e15)
      · have g11 := g10.2
        rw [fil_all (by rw [List.length_range, Int.toNat_natCast]; have := ra.1; omega)] at g11
        have g12 : H10 E = some (.lst ((gapsI r.1).map V.int)) := by
          rw [← gaps_eq]
          exact g11
        refine ⟨.ref E, _, rfl, ints_dpL g12, m1, m2, m3, m4, rfl, _, rfl, ite2 (fun e => absurd rfl (ndT e)) (fun _ => ?_)⟩
        have hD10 := g10.1 _ _ hD
        refine ⟨.ref D, rfl, .inl ⟨rfl, _, SqL.of hD10⟩, D, _, _, rfl, rfl, hD10, ?_, ?_⟩
        · rw [List.length_map]
          exact Nat.lt_of_le_of_lt gI2 (by decide)
        · exact ⟨_, _, _, _, _, _, _, _, _, rfl, k1.trans (fr.upd (x9.2.trans (Ky.of g10.1)) hD10)⟩
    obtain ⟨z6, z7, z8, z9, z10, z11, z12, z13, z14, rfl, k7⟩ := h
    have st8 := st7.step k7
    generalize H' = H8 at st8 ⊢
    clear k7 hlb st7
    -- tallies
    refine ⟨2, rfl, by decide, by decide, ?_⟩
    refine for_range (lo := 0) (n := (2 : Int).toNat) (fun n σ H' => ∃ z6 z7 z8 z9 z10 z11 z12 z13 z14, σ = [some (.ref a), some (.ref p), some (.int (0 + (i : Nat))), some (.ref t), some (.ref l5), some (.str D0.shown), z6, z7, z8, z9, z10, z11, z12, z13, z14] ∧ Ky H8 H') ⟨_, _, _, _, _, _, _, _, _, rfl, Ky.refl⟩ (fun n σ H' hn h => ?_) (fun σ H' h => ?_)
    · obtain ⟨z6, z7, z8, z9, z10, z11, z12, z13, z14, rfl, k1⟩ := h
      have st9 := st8.step k1
      refine ⟨.ref t, rfl, .ref l5, rfl, .ref t, l5, ss, xs5, rs, rfl, pln st9, gp, SqL.of (bok st9), prd st9, l60, st9.tab, fun H10 D ls x10 fr hD ll lots => ?_⟩
      have st10 := st9.step x10.2
      obtain ⟨ts1, ts2⟩ := tal_small gp l60
      obtain ⟨m1, m2, m3, m4⟩ := reprs ts1 (Nat.le_trans ts2 (by decide))
      refine ⟨.ref D, rfl, .ref D, talD ss rs, rfl, lots_dp hD ll (fun j l e => (lots j l e).2.2), m1, m2, m3, m4, ?_⟩
      refine ⟨.ref t, rfl, .ref l5, rfl, .ref t, l5, ss, xs5, rs, rfl, pln st10, gp, SqL.of (bok st10), prd st10, l60, fun H11 D11 s11 dp11 => ?_⟩
      refine ⟨.ref D11, talD ss rs, rfl, dp11, m1, m2, m3, m4, rfl, _, rfl, ite2 (fun e => absurd rfl (ndT e)) (fun _ => ?_)⟩
      have ky11 := x10.2.trans (Ky.of s11)
      have hD11 := s11 _ _ hD
      have lots11 : ∀ l ∈ ls, Fresh H' l ∧ l ≠ D ∧ ∃ ws, H11 l = some (.lst ws) ∧ ws.length ≤ 10 + 0 := fun l hl => by
        obtain ⟨j, h1, h2⟩ := List.mem_iff_getElem.mp hl
        obtain ⟨q1, q2, q3⟩ := lots j l (by rw [List.getElem?_eq_getElem h1, h2])
        refine ⟨q1, q2, _, s11 _ _ q3, ?_⟩
        have hj : j < ss.length := by omega
        have gi := gp.2.2.2 _ (List.getElem_mem hj)
        have l6 := gi.2.2.2.2.1
        rw [List.getD_eq_getElem?_getD, List.getElem?_eq_getElem hj]
        unfold tallyV
        rw [List.length_append, List.length_map]
        show ss[j].2.length + 1 ≤ 10
        omega
      refine ⟨.ref D, rfl, D, rfl, ⟨_, SqL.of hD11⟩, ?_⟩
      refine for_it (walk_list (K := K) (a := D) (xs := ls.map V.ref)) (fun j σ H12 => ∃ z10, σ = [some (.ref a), some (.ref p), some (.int (0 + (i : Nat))), some (.ref t), some (.ref l5), some (.str D0.shown), z6, some (.ref D), z8, some (.int (0 + (n : Nat))), z10, z11, z12, z13, z14] ∧ Ky H' H12 ∧ H12 D = some (.lst (ls.map V.ref)) ∧ ∀ l ∈ ls, Fresh H' l ∧ l ≠ D ∧ ∃ ws, H12 l = some (.lst ws) ∧ ws.length ≤ 10 + j) ⟨_, rfl, ky11, hD11, lots11⟩ (fun j σ H12 _ h => ?_) (fun j x σ H12 H13 hj h hy => ?_) (fun σ H12 h => ?_)
      · obtain ⟨_, _, _, h1, _⟩ := h
        exact SqL.of h1
      · obtain ⟨rfl, hxj⟩ := hy
        obtain ⟨z10, rfl, k12, hD12, all12⟩ := h
        obtain ⟨l, hl, rfl⟩ := List.mem_map.mp (List.mem_of_getElem? hxj)
        obtain ⟨fl, nl, ws, hw, lw⟩ := all12 l hl
        have hj4 : j < 4 := by
          have := (List.getElem?_eq_some_iff.mp hxj).1
          rw [List.length_map] at this
          omega
        refine ⟨.ref l, rfl, .inl ⟨rfl, _, SqL.of hw⟩, l, _, _, rfl, rfl, hw, small1000 (by omega), ?_⟩
        refine ⟨_, rfl, fl.upd k12 hw, ?_, fun l' hl' => ?_⟩
        · rw [upd_ne (fun z => nl z.symm)]
          exact hD12
        · obtain ⟨fl', nl', ws', hw', lw'⟩ := all12 l' hl'
          refine ⟨fl', nl', ?_⟩
          by_cases e : l' = l
          · rw [e]
            exact ⟨_, upd_same, by rw [List.length_append]; show ws.length + 1 ≤ _; omega⟩
          · exact ⟨ws', by rw [upd_ne e]; exact hw', by omega⟩
      · obtain ⟨z10, rfl, k12, hD12, all12⟩ := h
        refine ⟨.ref D, rfl, .inl ⟨rfl, _, SqL.of hD12⟩, D, _, _, rfl, rfl, hD12, ?_, ?_⟩
        · rw [List.length_map]
          exact small1000 (by omega)
        · exact ⟨_, _, _, _, _, _, _, _, _, rfl, k1.trans (fr.upd k12 hD12)⟩
    obtain ⟨z6, z7, z8, z9, z10, z11, z12, z13, z14, rfl, k9⟩ := h
    have st9 := st8.step k9
    generalize H' = H9 at st9 ⊢
    clear k9 st8
    -- fitting
    refine ⟨4, rfl, by decide, by decide, ?_⟩
    refine for_range (lo := 0) (n := (4 : Int).toNat) (fun n σ H' => ∃ z6 z7 z8 z9 z10 z11 z12 z13 z14, σ = [some (.ref a), some (.ref p), some (.int (0 + (i : Nat))), some (.ref t), some (.ref l5), some (.str D0.shown), z6, z7, z8, z9, z10, z11, z12, z13, z14] ∧ Stt p c P1 P2 P3 H0 (20000 * i + 8000 + 1000 * n) H') ⟨_, _, _, _, _, _, _, _, _, rfl, st9⟩ (fun n σ H' hn h => ?_) (fun σ H' h => ?_)
    · have hn4 : n < 4 := hn
      obtain ⟨z6, z7, z8, z9, z10, z11, z12, z13, z14, rfl, st10⟩ := h
      -- the codes
      refine ⟨.ref p, rfl, .ref l5, rfl, .ref p, rfl, .ref t, rfl, p, c, _, .ref t, ss, rfl, st10.pur, by omega, st10.ky.dp _ _ hp0, gp, fun H11 x11 k11 hP11 rx11 => ?_⟩
      have st11 := st10.draw k11 hP11
      refine ⟨(by show 1 ≤ sizeLine; decide), fun lr nlr => ?_⟩
      have s12 := same_upd nlr (o := .lst [x11])
      have st12 := st11.step (Ky.of s12)
      refine ⟨l5, lr, xs5, [x11], rfl, rfl, bok st12, upd_same, by show xs5.length + 1 ≤ sizeLine; exact Nat.le_of_lt (small1000 (by omega)), fun lc nlc => ?_⟩
      have s13 := same_upd nlc (o := .lst (xs5 ++ [x11]))
      have st13 := st12.step (Ky.of s13)
      obtain ⟨lcp, lcc⟩ := st12.pur.nep nlc
      refine ⟨p, c, _, _, rfl, st13.pur, by omega, .inr ⟨lc, _, rfl, lcp, lcc, SqL.of upd_same, by rw [List.length_append]; exact Nat.succ_pos _, by rw [List.length_append]; show xs5.length + 1 ≤ 1000; omega, fun H14 v hv hP14 k14 => ?_⟩⟩
      have st14 := st13.draw k14 hP14
      have rv : RecV K ss H14 v := by
        rcases List.mem_append.mp hv with hv | hv
        · obtain ⟨j, h1, h2⟩ := List.mem_iff_getElem.mp hv
          obtain ⟨r, _, ar, e, q1, q2⟩ := paired_get (prd st14) (by rw [List.getElem?_eq_getElem h1, h2] : xs5[j]? = some v)
          exact ⟨ar, r.1, r.2, e, q1, q2⟩
        · rw [List.mem_singleton.mp hv]
          exact ((rx11.ky (Ky.of (s12.trans s13))).kp st13.pur k14)
      obtain ⟨r, as, m, rfl, sqr, ra⟩ := rv
      refine ⟨_, rfl, _, rfl, r, _, rfl, sqr, fun H15 b15 s15 sq15 => ?_⟩
      rw [show (-(1 : Int)) = -1 from rfl, cut_last] at sq15
      have st15 := st14.step (Ky.of s15)
      have las : as.length = ss.length := ra.1
      refine ⟨.ref b15, rfl, b15, rfl, ⟨_, sq15⟩, fun E nE => ?_⟩
      obtain ⟨Ep, Ec⟩ := st15.pur.nep nE
      refine lc_it (walk_tup (K := K) (a := b15) (xs := as.map ansV)) (fun j H16 => ∃ cs : List (Option Str), H16 E = some (.lst (cs.map ansV)) ∧ cs.length = j ∧ (∀ (n : Nat) (z : Str), cs[n]? = some (some z) → as[n]? = some (some z)) ∧ Kp p c H15 H16 ∧ Pur H16 p c (20000 * i + 8000 + 1000 * n + 200 + j))
        ⟨[], upd_same, rfl, fun n z e => by simp at e, Kp.of (same_upd nE), (st15.pur.upd Ep Ec).le (by omega)⟩ (fun j H16 _ h => ?_) (fun j x H16 H17 hj h hy => ?_) (fun H16 h => ?_)
      · obtain ⟨cs, _, _, _, k16, hP16⟩ := h
        exact k16.sqT st15.pur sq15
      · obtain ⟨rfl, hxj⟩ := hy
        obtain ⟨cs, hE, lcs, hcs, k16, hP16⟩ := h
        have exj := ans_get hxj
        have hj2 : j < as.length := by
          have := (List.getElem?_eq_some_iff.mp hxj).1
          rw [List.length_map] at this
          exact this
        refine ⟨rfl, x, rfl, (by show 2 ≤ sizeLine; decide), fun l17 nl17 => ?_⟩
        have s17 := same_upd nl17 (o := .lst [x, .non])
        obtain ⟨l17p, l17c⟩ := hP16.nep nl17
        refine ⟨.ref p, rfl, p, c, _, 2, rfl, hP16.same s17, by omega, by decide, by decide, fun H18 r18 r0 r1 hP18 k18 => ?_⟩
        have hl18 := k18 _ _ l17p l17c (show (upd H17 l17 (.lst [x, .non])) l17 = some (.lst [x, .non]) from upd_same)
        have hE18 := k18 _ _ Ep Ec (s17 _ _ hE)
        have k168 := (k16.trans (Kp.of s17)).trans k18
        have nE15 : H15 E = none := nE
        have fin : ∀ ans : Option Str, (∀ z, ans = some z → as[j]? = some (some z)) → ∃ acc, H18 E = some (.lst acc) ∧ acc.length < sizeLine ∧ ∃ cs' : List (Option Str), (upd H18 E (.lst (acc ++ [ansV ans]))) E = some (.lst (cs'.map ansV)) ∧ cs'.length = j + 1 ∧ (∀ (n : Nat) (z : Str), cs'[n]? = some (some z) → as[n]? = some (some z)) ∧ Kp p c H15 (upd H18 E (.lst (acc ++ [ansV ans]))) ∧ Pur (upd H18 E (.lst (acc ++ [ansV ans]))) p c (20000 * i + 8000 + 1000 * n + 200 + (j + 1)) := fun ans hans => by
          refine ⟨_, hE18, by rw [List.length_map]; exact small1000 (by omega), cs ++ [ans], by rw [upd_same, List.map_append]; rfl, by rw [List.length_append, lcs]; rfl, fun n' z' e' => ?_, k168.upd nE15, (hP18.le (by omega)).upd Ep Ec⟩
          by_cases hn' : n' < cs.length
          · rw [List.getElem?_append_left hn'] at e'
            exact hcs n' z' e'
          · rw [List.getElem?_append_right (by omega)] at e'
            have e0 : n' - cs.length = 0 := by
              cases hc : n' - cs.length with
              | zero => rfl
              | succ n2 =>
                rw [hc] at e'
                simp at e'
            rw [e0] at e'
            have e1 : ans = some z' := by simpa using e'
            have e2 : n' = j := by omega
            rw [e2]
            exact hans z' e1
        refine ⟨rfl, .inr ⟨_, rfl, ?_⟩⟩
        by_cases h0 : r18 = 0
        · subst h0
          exact ⟨l17, _, 1, .non, rfl, rfl, SqL.of hl18, rfl, fin none (fun z e => nomatch e)⟩
        · have e0 : decide (V.int r18 = V.int 0) = false := decide_eq_false fun z => h0 (V.int.inj z)
          rw [e0]
          refine ⟨l17, _, 0, x, rfl, rfl, SqL.of hl18, rfl, ?_⟩
          rw [exj]
          refine fin (as.getD j none) (fun z e => ?_)
          rw [List.getD_eq_getElem?_getD, List.getElem?_eq_getElem hj2] at e
          rw [List.getElem?_eq_getElem hj2]
          exact congrArg some e
      · obtain ⟨cs, hE, lcs, hcs, k16, hP16⟩ := h
        rw [List.length_map] at lcs hP16
        have st16 := st15.draw k16 hP16
        refine ⟨E, _, rfl, .inl ⟨SqL.of hE, fun tc ntc => ?_⟩⟩
        have st17 := st16.step (Ky.of (same_upd ntc (o := .tup (cs.map ansV))))
        have htc : (upd H16 tc (.tup (cs.map ansV))) tc = some (.tup (cs.map ansV)) := upd_same
        generalize upd H16 tc (.tup (cs.map ansV)) = H17 at st17 htc ⊢
        have lc : cs.length = ss.length := by omega
        have ao : AnsOk ss cs := fun n' z' e' => ra.2.1 n' z' (hcs n' z' e')
        obtain ⟨ca, cpl⟩ := codes_ok gp lc ao
        have cdp : ∀ {H' : Hp}, H' tc = some (.tup (cs.map ansV)) → Dp K H' (.ref tc) (.tuple (cs.map ansD)) := fun h => .tup (SqT.of h) (ans_dpA cs)
        obtain ⟨fI1, fI2⟩ := some_small (n := rs.length) (f := fitP rs cs) (by omega)
        obtain ⟨m1, m2, m3, m4⟩ := reprs (ints_small fI1 fI2).1 (Nat.le_trans (ints_small fI1 fI2).2 (by decide))
        -- told once
        refine ⟨.ref t, rfl, .ref l5, rfl, .ref tc, rfl, .ref t, .ref tc, l5, ss, xs5, rs, _, rfl, pln st17, gp, SqL.of (bok st17), prd st17, l60, cdp htc, cpl, st17.tab, st17.t3, .inr ⟨ca, tc, cs, rfl, SqT.of htc, lc, fun H18 D x18 fr18 hD => ?_⟩⟩
        have st18 := st17.step x18.2
        have htc18 := x18.2 tc (.tup (cs.map ansV)) (fun _ z => nomatch z) htc
        rw [fit_eq] at hD
        refine ⟨.ref D, rfl, .ref D, _, rfl, ints_dpL hD, m1, m2, m3, m4, ?_⟩
        refine ⟨.ref l5, rfl, .ref tc, rfl, l5, tc, ss, xs5, rs, cs, rfl, SqL.of (bok st18), prd st18, l60, SqT.of htc18, lc, by omega, fun H19 D19 s19 hD19 => ?_⟩
        rw [fit_eq] at hD19
        refine ⟨.ref D19, _, rfl, ints_dpL hD19, m1, m2, m3, m4, rfl, _, rfl, ite2 (fun e => absurd rfl (ndT e)) (fun _ => ?_)⟩
        have hDn := s19 _ _ hD
        refine ⟨.ref D, rfl, .inl ⟨rfl, _, SqL.of hDn⟩, D, _, _, rfl, rfl, hDn, by rw [List.length_map]; exact Nat.lt_of_le_of_lt fI2 (by decide), ?_⟩
        have k20 := fr18.upd (o := .lst ((fitI rs cs).map V.int ++ [.int 7])) (x18.2.trans (Ky.of s19)) hDn
        have st20 := st17.step k20
        have htc20 := k20 tc (.tup (cs.map ansV)) (fun _ z => nomatch z) htc
        generalize upd H19 D (.lst ((fitI rs cs).map V.int ++ [.int 7])) = H20 at st20 htc20 ⊢
        -- told again
        refine ⟨.ref t, rfl, .ref l5, rfl, .ref tc, rfl, .ref t, .ref tc, l5, ss, xs5, rs, _, rfl, pln st20, gp, SqL.of (bok st20), prd st20, l60, cdp htc20, cpl, st20.tab, st20.t3, .inr ⟨ca, tc, cs, rfl, SqT.of htc20, lc, fun H21 D21 x21 fr21 hD21 => ?_⟩⟩
        have st21 := st20.step x21.2
        have htc21 := x21.2 tc (.tup (cs.map ansV)) (fun _ z => nomatch z) htc20
        rw [fit_eq] at hD21
        refine ⟨.ref D21, _, rfl, ints_dpL hD21, m1, m2, m3, m4, ?_⟩
        refine ⟨.ref l5, rfl, .ref tc, rfl, l5, tc, ss, xs5, rs, cs, rfl, SqL.of (bok st21), prd st21, l60, SqT.of htc21, lc, by omega, fun H22 D22 s22 hD22 => ?_⟩
        rw [fit_eq] at hD22
        refine ⟨.ref D22, _, rfl, ints_dpL hD22, m1, m2, m3, m4, rfl, _, rfl, ite2 (fun e => absurd rfl (ndT e)) (fun _ => ?_)⟩
        have st22 := st21.step (Ky.of s22)
        have htc22 := s22 _ _ htc21
        -- what is none
        refine ⟨.ref p, rfl, .ref t, rfl, .ref tc, rfl, p, c, _, .ref t, tc, ss, cs, rfl, st22.pur, by omega, st22.ky.dp _ _ hp0, gp, SqT.of htc22, lc, ao, fun H23 lo xso k23 hP23 hlo odd => ?_⟩
        have st23 := st22.draw k23 hP23
        refine ⟨lo, rfl, ⟨_, SqL.of hlo⟩, ?_⟩
        refine for_it (walk_list (K := K) (a := lo) (xs := xso)) (fun j σ H' => ∃ z14, σ = [some (.ref a), some (.ref p), some (.int (0 + (i : Nat))), some (.ref t), some (.ref l5), some (.str D0.shown), z6, some (.ref D), z8, some (.int (0 + (n : Nat))), z10, some (.ref b15), some (.ref tc), z13, z14] ∧ Ky H23 H') ⟨_, rfl, Ky.refl⟩ (fun j σ H' _ h => ?_) (fun j x σ H' H'' hj h hy => ?_) (fun σ H' h => ?_)
        · obtain ⟨_, _, k1⟩ := h
          exact SqL.of (k1 lo _ (fun _ z => nomatch z) hlo)
        · obtain ⟨rfl, hxj⟩ := hy
          obtain ⟨z14, rfl, k1⟩ := h
          obtain ⟨d, hd, pd, wd, nd⟩ := (odd x (List.mem_of_getElem? hxj)).ky k1
          have st24 := st23.step k1
          refine ⟨.ref t, rfl, .ref l5, rfl, x, rfl, .ref t, x, l5, ss, xs5, rs, d, rfl, pln st24, gp, SqL.of (bok st24), prd st24, l60, hd, pd, st24.tab, st24.t3, nd, fun H25 x25 => ⟨_, rfl, ite2 (fun e => absurd e (by decide)) (fun _ => ⟨_, rfl, k1.trans x25.2⟩)⟩⟩
        · obtain ⟨z14, rfl, k1⟩ := h
          exact ⟨_, _, _, _, _, _, _, _, _, rfl, (st23.step k1).le (by omega)⟩
    obtain ⟨z6, z7, z8, z9, z10, z11, z12, z13, z14, rfl, st10⟩ := h
    refine ⟨.ref t, rfl, .ref l5, rfl, (by show 2 ≤ sizeLine; decide), fun lk2 nlk2 => ?_⟩
    have st11 := st10.step (Ky.of (same_upd nlk2 (o := .lst [.ref t, .ref l5])))
    refine ⟨.ref lk2, D0, rfl, dpD st11 upd_same, n1, n2, n3, n4, _, rfl, rfl, _, rfl, ite2 (fun e => absurd rfl (ndT e)) (fun _ => ?_)⟩
    have e4 : 20000 * i + 8000 + 1000 * (4 : Int).toNat ≤ 20000 * (i + 1) := by
      show 20000 * i + 8000 + 4000 ≤ _
      omega
    exact ⟨_, _, _, _, _, _, _, _, _, _, _, _, _, rfl, st11.pur.le e4, st11.tab, st11.t3⟩
end
end Cv
set_option Elab.async false
set_option linter.all false
set_option maxRecDepth 100000
set_option maxHeartbeats 8000000
namespace Cv
open PySem PySem.Spec PyProof.Rows L2
/-! ### what the top has left -/
theorem tab_mk {K : PySem.W.Frag} {x : Str} {f c T : Addr} {oc e : Value} {od dd : Option Addr} {fd : FuncData} {sl sl2 : Array (Option Value)} {vs : Array Value} (a : PySem.W.nsIn K mainGlobals x = some (some (.ref f))) (l : K.lookup f = some ⟨oc, od, .func fd, sl⟩) (hc : fd.code = .ref c) (lc : K.lookup c = some ⟨e, dd, .fields vs, sl2⟩) (hv : vs[11]? = some (.ref T)) : PySem.W.tabIn K x = some (c, T) := by
  unfold PySem.W.tabIn
  simp only [a, l, hc, lc, hv]
theorem all_mk {P : Program} {w : World} {K : PySem.W.Frag} {h : Heap} {q0 : Program} {mg : Str → Option Value} {fa f0 f1 f2 f3 f4 f5 f6 f7 f8 f9 f10 f11 f12 f13 f14 f15 f16 f17 f18 f19 f20 f21 f22 f23 f24 f25 f26 f27 f28 f29 f30 f31 f32 f33 f34 f35 C0 cB cC cP cR cT cc_1 TT_1 cc_5 TT_5 cc_21 TT_21 : Addr} (X : K.In h) (G : h.Ns mainGlobals mg) (hfa : mg "law" = some (.ref fa)) (TB : TabsOf q0 K h)
    {od0 an0 od1 an1 od2 an2 od3 an3 od4 an4 od5 an5 od6 an6 od7 an7 od8 an8 od9 an9 od10 an10 od11 an11 od12 an12 od13 an13 od14 an14 od15 an15 od16 an16 od17 an17 od18 an18 od19 an19 od20 an20 od21 an21 od22 an22 od23 an23 od24 an24 od25 an25 od26 an26 od27 an27 od28 an28 od29 an29 od30 an30 od31 an31 od32 an32 od33 an33 od34 an34 od35 an35 ddC1 ddC5 ddC21 : Option Addr} {sl0 sl1 sl2 sl3 sl4 sl5 sl6 sl7 sl8 sl9 sl10 sl11 sl12 sl13 sl14 sl15 sl16 sl17 sl18 sl19 sl20 sl21 sl22 sl23 sl24 sl25 sl26 sl27 sl28 sl29 sl30 sl31 sl32 sl33 sl34 sl35 slC1 slC5 slC21 : Array (Option Value)} {oc0 kV0 dc0 pm0 ct0 oc1 kV1 dc1 pm1 ct1 oc2 kV2 dc2 pm2 ct2 oc3 kV3 dc3 pm3 ct3 oc4 kV4 dc4 pm4 ct4 oc5 kV5 dc5 pm5 ct5 oc6 kV6 dc6 pm6 ct6 oc7 kV7 dc7 pm7 ct7 oc8 kV8 dc8 pm8 ct8 oc9 kV9 dc9 pm9 ct9 oc10 kV10 dc10 pm10 ct10 oc11 kV11 dc11 pm11 ct11 oc12 kV12 dc12 pm12 ct12 oc13 kV13 dc13 pm13 ct13 oc14 kV14 dc14 pm14 ct14 oc15 kV15 dc15 pm15 ct15 oc16 kV16 dc16 pm16 ct16 oc17 kV17 dc17 pm17 ct17 oc18 kV18 dc18 pm18 ct18 oc19 kV19 dc19 pm19 ct19 oc20 kV20 dc20 pm20 ct20 oc21 kV21 dc21 pm21 ct21 oc22 kV22 dc22 pm22 ct22 oc23 kV23 dc23 pm23 ct23 oc24 kV24 dc24 pm24 ct24 oc25 kV25 dc25 pm25 ct25 oc26 kV26 dc26 pm26 ct26 oc27 kV27 dc27 pm27 ct27 oc28 kV28 dc28 pm28 ct28 oc29 kV29 dc29 pm29 ct29 oc30 kV30 dc30 pm30 ct30 oc31 kV31 dc31 pm31 ct31 oc32 kV32 dc32 pm32 ct32 oc33 kV33 dc33 pm33 ct33 oc34 kV34 dc34 pm34 ct34 oc35 kV35 dc35 pm35 ct35 cd0 cd2 cd3 cd4 cd6 cd7 cd8 cd9 cd10 cd11 cd12 cd13 cd14 cd15 cd16 cd17 cd18 cd19 cd20 cd22 cd23 cd24 cd25 cd26 cd27 cd28 cd29 cd30 cd31 cd32 cd33 cd34 cd35 eC1 eC5 eC21 : Value} {tk0 tk1 tk2 tk3 tk4 tk5 tk6 : Tok} {vC1 vC5 vC21 : Array Value}
    (a0 : PySem.W.nsIn K mainGlobals "is_small_letter" = some (some (.ref f0)))
    (l0 : K.lookup f0 = some ⟨oc0, od0, .func (PySem.W.fnOf "is_small_letter" "is_small_letter" (defArgs sSl) (defBody sSl) (defScope sSl) .none kV0 dc0 pm0 an0 cd0 ct0), sl0⟩)
    (c0x : PySem.W.codeIn K cd0 "is_small_letter" = true)
    (k0 : PySem.W.keepIn K (.ref f0) = true)
    (a1 : PySem.W.nsIn K mainGlobals "is_word" = some (some (.ref f1)))
    (l1 : K.lookup f1 = some ⟨oc1, od1, .func (PySem.W.fnOf "is_word" "is_word" (defArgs sIw) (defBody sIw) (defScope sIw) .none kV1 dc1 pm1 an1 (.ref cc_1) ct1), sl1⟩)
    (c1x : PySem.W.codeIn K (.ref cc_1) "is_word" = true)
    (k1 : PySem.W.keepIn K (.ref f1) = true)
    (lc1 : K.lookup cc_1 = some ⟨eC1, ddC1, .fields vC1, slC1⟩)
    (v11_1 : vC1[11]? = some (.ref TT_1))
    (rq1 : ((PyProof.Rows.recsOf q0).find? fun e => e.name == Str.ofString "is_word").isSome = true)
    (a2 : PySem.W.nsIn K mainGlobals "is_tuple_of" = some (some (.ref f2)))
    (l2 : K.lookup f2 = some ⟨oc2, od2, .func (PySem.W.fnOf "is_tuple_of" "is_tuple_of" (defArgs sTf) (defBody sTf) (defScope sTf) .none kV2 dc2 pm2 an2 cd2 ct2), sl2⟩)
    (c2x : PySem.W.codeIn K cd2 "is_tuple_of" = true)
    (k2 : PySem.W.keepIn K (.ref f2) = true)
    (a3 : PySem.W.nsIn K mainGlobals "is_name" = some (some (.ref f3)))
    (l3 : K.lookup f3 = some ⟨oc3, od3, .func (PySem.W.fnOf "is_name" "is_name" (defArgs sIn) (defBody sIn) (defScope sIn) .none kV3 dc3 pm3 an3 cd3 ct3), sl3⟩)
    (c3x : PySem.W.codeIn K cd3 "is_name" = true)
    (k3 : PySem.W.keepIn K (.ref f3) = true)
    (a4 : PySem.W.nsIn K mainGlobals "is_code" = some (some (.ref f4)))
    (l4 : K.lookup f4 = some ⟨oc4, od4, .func (PySem.W.fnOf "is_code" "is_code" (defArgs sIc) (defBody sIc) (defScope sIc) .none kV4 dc4 pm4 an4 cd4 ct4), sl4⟩)
    (c4x : PySem.W.codeIn K cd4 "is_code" = true)
    (k4 : PySem.W.keepIn K (.ref f4) = true)
    (a5 : PySem.W.nsIn K mainGlobals "are_unlike_codes" = some (some (.ref f5)))
    (l5 : K.lookup f5 = some ⟨oc5, od5, .func (PySem.W.fnOf "are_unlike_codes" "are_unlike_codes" (defArgs sUc) (defBody sUc) (defScope sUc) .none kV5 dc5 pm5 an5 (.ref cc_5) ct5), sl5⟩)
    (c5x : PySem.W.codeIn K (.ref cc_5) "are_unlike_codes" = true)
    (k5 : PySem.W.keepIn K (.ref f5) = true)
    (lc5 : K.lookup cc_5 = some ⟨eC5, ddC5, .fields vC5, slC5⟩)
    (v11_5 : vC5[11]? = some (.ref TT_5))
    (rq5 : ((PyProof.Rows.recsOf q0).find? fun e => e.name == Str.ofString "are_unlike_codes").isSome = true)
    (a6 : PySem.W.nsIn K mainGlobals "is_sort" = some (some (.ref f6)))
    (l6 : K.lookup f6 = some ⟨oc6, od6, .func (PySem.W.fnOf "is_sort" "is_sort" (defArgs sIs) (defBody sIs) (defScope sIs) .none kV6 dc6 pm6 an6 cd6 ct6), sl6⟩)
    (c6x : PySem.W.codeIn K cd6 "is_sort" = true)
    (k6 : PySem.W.keepIn K (.ref f6) = true)
    (a7 : PySem.W.nsIn K mainGlobals "plan_wrong" = some (some (.ref f7)))
    (l7 : K.lookup f7 = some ⟨oc7, od7, .func (PySem.W.fnOf "plan_wrong" "plan_wrong" (defArgs sPw) (defBody sPw) (defScope sPw) .none kV7 dc7 pm7 an7 cd7 ct7), sl7⟩)
    (c7x : PySem.W.codeIn K cd7 "plan_wrong" = true)
    (k7 : PySem.W.keepIn K (.ref f7) = true)
    (a8 : PySem.W.nsIn K mainGlobals "need_plan" = some (some (.ref f8)))
    (l8 : K.lookup f8 = some ⟨oc8, od8, .func (PySem.W.fnOf "need_plan" "need_plan" (defArgs sNp) (defBody sNp) (defScope sNp) .none kV8 dc8 pm8 an8 cd8 ct8), sl8⟩)
    (c8x : PySem.W.codeIn K cd8 "need_plan" = true)
    (k8 : PySem.W.keepIn K (.ref f8) = true)
    (a9 : PySem.W.nsIn K mainGlobals "is_whole" = some (some (.ref f9)))
    (l9 : K.lookup f9 = some ⟨oc9, od9, .func (PySem.W.fnOf "is_whole" "is_whole" (defArgs sWh) (defBody sWh) (defScope sWh) .none kV9 dc9 pm9 an9 cd9 ct9), sl9⟩)
    (c9x : PySem.W.codeIn K cd9 "is_whole" = true)
    (k9 : PySem.W.keepIn K (.ref f9) = true)
    (a10 : PySem.W.nsIn K mainGlobals "is_whole_within" = some (some (.ref f10)))
    (l10 : K.lookup f10 = some ⟨oc10, od10, .func (PySem.W.fnOf "is_whole_within" "is_whole_within" (defArgs sWw) (defBody sWw) (defScope sWw) .none kV10 dc10 pm10 an10 cd10 ct10), sl10⟩)
    (c10x : PySem.W.codeIn K cd10 "is_whole_within" = true)
    (k10 : PySem.W.keepIn K (.ref f10) = true)
    (a11 : PySem.W.nsIn K mainGlobals "first_no_code" = some (some (.ref f11)))
    (l11 : K.lookup f11 = some ⟨oc11, od11, .func (PySem.W.fnOf "first_no_code" "first_no_code" (defArgs sFn) (defBody sFn) (defScope sFn) .none kV11 dc11 pm11 an11 cd11 ct11), sl11⟩)
    (c11x : PySem.W.codeIn K cd11 "first_no_code" = true)
    (k11 : PySem.W.keepIn K (.ref f11) = true)
    (a12 : PySem.W.nsIn K mainGlobals "wrong_in_record" = some (some (.ref f12)))
    (l12 : K.lookup f12 = some ⟨oc12, od12, .func (PySem.W.fnOf "wrong_in_record" "wrong_in_record" (defArgs sWr) (defBody sWr) (defScope sWr) .none kV12 dc12 pm12 an12 cd12 ct12), sl12⟩)
    (c12x : PySem.W.codeIn K cd12 "wrong_in_record" = true)
    (k12 : PySem.W.keepIn K (.ref f12) = true)
    (a13 : PySem.W.nsIn K mainGlobals "is_record" = some (some (.ref f13)))
    (l13 : K.lookup f13 = some ⟨oc13, od13, .func (PySem.W.fnOf "is_record" "is_record" (defArgs sIr) (defBody sIr) (defScope sIr) .none kV13 dc13 pm13 an13 cd13 ct13), sl13⟩)
    (c13x : PySem.W.codeIn K cd13 "is_record" = true)
    (k13 : PySem.W.keepIn K (.ref f13) = true)
    (a14 : PySem.W.nsIn K mainGlobals "wrong_in_book" = some (some (.ref f14)))
    (l14 : K.lookup f14 = some ⟨oc14, od14, .func (PySem.W.fnOf "wrong_in_book" "wrong_in_book" (defArgs sWb) (defBody sWb) (defScope sWb) .none kV14 dc14 pm14 an14 cd14 ct14), sl14⟩)
    (c14x : PySem.W.codeIn K cd14 "wrong_in_book" = true)
    (k14 : PySem.W.keepIn K (.ref f14) = true)
    (a15 : PySem.W.nsIn K mainGlobals "are_codes" = some (some (.ref f15)))
    (l15 : K.lookup f15 = some ⟨oc15, od15, .func (PySem.W.fnOf "are_codes" "are_codes" (defArgs sAc) (defBody sAc) (defScope sAc) .none kV15 dc15 pm15 an15 cd15 ct15), sl15⟩)
    (c15x : PySem.W.codeIn K cd15 "are_codes" = true)
    (k15 : PySem.W.keepIn K (.ref f15) = true)
    (a16 : PySem.W.nsIn K mainGlobals "need_record" = some (some (.ref f16)))
    (l16 : K.lookup f16 = some ⟨oc16, od16, .func (PySem.W.fnOf "need_record" "need_record" (defArgs sNr) (defBody sNr) (defScope sNr) .none kV16 dc16 pm16 an16 cd16 ct16), sl16⟩)
    (c16x : PySem.W.codeIn K cd16 "need_record" = true)
    (k16 : PySem.W.keepIn K (.ref f16) = true)
    (a17 : PySem.W.nsIn K mainGlobals "need_book" = some (some (.ref f17)))
    (l17 : K.lookup f17 = some ⟨oc17, od17, .func (PySem.W.fnOf "need_book" "need_book" (defArgs sNb) (defBody sNb) (defScope sNb) .none kV17 dc17 pm17 an17 cd17 ct17), sl17⟩)
    (c17x : PySem.W.codeIn K cd17 "need_book" = true)
    (k17 : PySem.W.keepIn K (.ref f17) = true)
    (a18 : PySem.W.nsIn K mainGlobals "gaps" = some (some (.ref f18)))
    (l18 : K.lookup f18 = some ⟨oc18, od18, .func (PySem.W.fnOf "gaps" "gaps" (defArgs sGa) (defBody sGa) (defScope sGa) .none kV18 dc18 pm18 an18 cd18 ct18), sl18⟩)
    (c18x : PySem.W.codeIn K cd18 "gaps" = true)
    (k18 : PySem.W.keepIn K (.ref f18) = true)
    (a19 : PySem.W.nsIn K mainGlobals "tally" = some (some (.ref f19)))
    (l19 : K.lookup f19 = some ⟨oc19, od19, .func (PySem.W.fnOf "tally" "tally" (defArgs sTa) (defBody sTa) (defScope sTa) .none kV19 dc19 pm19 an19 cd19 ct19), sl19⟩)
    (c19x : PySem.W.codeIn K cd19 "tally" = true)
    (k19 : PySem.W.keepIn K (.ref f19) = true)
    (a20 : PySem.W.nsIn K mainGlobals "tallies" = some (some (.ref f20)))
    (l20 : K.lookup f20 = some ⟨oc20, od20, .func (PySem.W.fnOf "tallies" "tallies" (defArgs sTs) (defBody sTs) (defScope sTs) .none kV20 dc20 pm20 an20 cd20 ct20), sl20⟩)
    (c20x : PySem.W.codeIn K cd20 "tallies" = true)
    (k20 : PySem.W.keepIn K (.ref f20) = true)
    (a21 : PySem.W.nsIn K mainGlobals "fits" = some (some (.ref f21)))
    (l21 : K.lookup f21 = some ⟨oc21, od21, .func (PySem.W.fnOf "fits" "fits" (defArgs sFt) (defBody sFt) (defScope sFt) .none kV21 dc21 pm21 an21 (.ref cc_21) ct21), sl21⟩)
    (c21x : PySem.W.codeIn K (.ref cc_21) "fits" = true)
    (k21 : PySem.W.keepIn K (.ref f21) = true)
    (lc21 : K.lookup cc_21 = some ⟨eC21, ddC21, .fields vC21, slC21⟩)
    (v11_21 : vC21[11]? = some (.ref TT_21))
    (rq21 : ((PyProof.Rows.recsOf q0).find? fun e => e.name == Str.ofString "fits").isSome = true)
    (a22 : PySem.W.nsIn K mainGlobals "fitting" = some (some (.ref f22)))
    (l22 : K.lookup f22 = some ⟨oc22, od22, .func (PySem.W.fnOf "fitting" "fitting" (defArgs sFg) (defBody sFg) (defScope sFg) .none kV22 dc22 pm22 an22 cd22 ct22), sl22⟩)
    (c22x : PySem.W.codeIn K cd22 "fitting" = true)
    (k22 : PySem.W.keepIn K (.ref f22) = true)
    (a23 : PySem.W.nsIn K mainGlobals "_law_purse" = some (some (.ref f23)))
    (l23 : K.lookup f23 = some ⟨oc23, od23, .func (PySem.W.fnOf "_law_purse" "_law_purse" (defArgs sPurse) (defBody sPurse) (defScope sPurse) .none kV23 dc23 pm23 an23 cd23 ct23), sl23⟩)
    (c23x : PySem.W.codeIn K cd23 "_law_purse" = true)
    (k23 : PySem.W.keepIn K (.ref f23) = true)
    (a24 : PySem.W.nsIn K mainGlobals "_law_draw" = some (some (.ref f24)))
    (l24 : K.lookup f24 = some ⟨oc24, od24, .func (PySem.W.fnOf "_law_draw" "_law_draw" (defArgs sDraw) (defBody sDraw) (defScope sDraw) .none kV24 dc24 pm24 an24 cd24 ct24), sl24⟩)
    (c24x : PySem.W.codeIn K cd24 "_law_draw" = true)
    (k24 : PySem.W.keepIn K (.ref f24) = true)
    (a25 : PySem.W.nsIn K mainGlobals "_law_pick" = some (some (.ref f25)))
    (l25 : K.lookup f25 = some ⟨oc25, od25, .func (PySem.W.fnOf "_law_pick" "_law_pick" (defArgs sPick) (defBody sPick) (defScope sPick) .none kV25 dc25 pm25 an25 cd25 ct25), sl25⟩)
    (c25x : PySem.W.codeIn K cd25 "_law_pick" = true)
    (k25 : PySem.W.keepIn K (.ref f25) = true)
    (a26 : PySem.W.nsIn K mainGlobals "_law_word" = some (some (.ref f26)))
    (l26 : K.lookup f26 = some ⟨oc26, od26, .func (PySem.W.fnOf "_law_word" "_law_word" (defArgs sWord) (defBody sWord) (defScope sWord) .none kV26 dc26 pm26 an26 cd26 ct26), sl26⟩)
    (c26x : PySem.W.codeIn K cd26 "_law_word" = true)
    (k26 : PySem.W.keepIn K (.ref f26) = true)
    (a27 : PySem.W.nsIn K mainGlobals "_law_codes" = some (some (.ref f27)))
    (l27 : K.lookup f27 = some ⟨oc27, od27, .func (PySem.W.fnOf "_law_codes" "_law_codes" (defArgs sCodes) (defBody sCodes) (defScope sCodes) .none kV27 dc27 pm27 an27 cd27 ct27), sl27⟩)
    (c27x : PySem.W.codeIn K cd27 "_law_codes" = true)
    (k27 : PySem.W.keepIn K (.ref f27) = true)
    (a28 : PySem.W.nsIn K mainGlobals "_law_plan" = some (some (.ref f28)))
    (l28 : K.lookup f28 = some ⟨oc28, od28, .func (PySem.W.fnOf "_law_plan" "_law_plan" (defArgs sPlan) (defBody sPlan) (defScope sPlan) .none kV28 dc28 pm28 an28 cd28 ct28), sl28⟩)
    (c28x : PySem.W.codeIn K cd28 "_law_plan" = true)
    (k28 : PySem.W.keepIn K (.ref f28) = true)
    (a29 : PySem.W.nsIn K mainGlobals "_law_record" = some (some (.ref f29)))
    (l29 : K.lookup f29 = some ⟨oc29, od29, .func (PySem.W.fnOf "_law_record" "_law_record" (defArgs sRec) (defBody sRec) (defScope sRec) .none kV29 dc29 pm29 an29 cd29 ct29), sl29⟩)
    (c29x : PySem.W.codeIn K cd29 "_law_record" = true)
    (k29 : PySem.W.keepIn K (.ref f29) = true)
    (a30 : PySem.W.nsIn K mainGlobals "_law_book" = some (some (.ref f30)))
    (l30 : K.lookup f30 = some ⟨oc30, od30, .func (PySem.W.fnOf "_law_book" "_law_book" (defArgs sBk) (defBody sBk) (defScope sBk) .none kV30 dc30 pm30 an30 cd30 ct30), sl30⟩)
    (c30x : PySem.W.codeIn K cd30 "_law_book" = true)
    (k30 : PySem.W.keepIn K (.ref f30) = true)
    (a31 : PySem.W.nsIn K mainGlobals "_law_odd_codes" = some (some (.ref f31)))
    (l31 : K.lookup f31 = some ⟨oc31, od31, .func (PySem.W.fnOf "_law_odd_codes" "_law_odd_codes" (defArgs sOd) (defBody sOd) (defScope sOd) .none kV31 dc31 pm31 an31 cd31 ct31), sl31⟩)
    (c31x : PySem.W.codeIn K cd31 "_law_odd_codes" = true)
    (k31 : PySem.W.keepIn K (.ref f31) = true)
    (a32 : PySem.W.nsIn K mainGlobals "_law_refused" = some (some (.ref f32)))
    (l32 : K.lookup f32 = some ⟨oc32, od32, .func (PySem.W.fnOf "_law_refused" "_law_refused" (defArgs sRx) (defBody sRx) (defScope sRx) .none kV32 dc32 pm32 an32 cd32 ct32), sl32⟩)
    (c32x : PySem.W.codeIn K cd32 "_law_refused" = true)
    (k32 : PySem.W.keepIn K (.ref f32) = true)
    (a33 : PySem.W.nsIn K mainGlobals "_law_tallied" = some (some (.ref f33)))
    (l33 : K.lookup f33 = some ⟨oc33, od33, .func (PySem.W.fnOf "_law_tallied" "_law_tallied" (defArgs sLt) (defBody sLt) (defScope sLt) .none kV33 dc33 pm33 an33 cd33 ct33), sl33⟩)
    (c33x : PySem.W.codeIn K cd33 "_law_tallied" = true)
    (k33 : PySem.W.keepIn K (.ref f33) = true)
    (a34 : PySem.W.nsIn K mainGlobals "_law_fitting" = some (some (.ref f34)))
    (l34 : K.lookup f34 = some ⟨oc34, od34, .func (PySem.W.fnOf "_law_fitting" "_law_fitting" (defArgs sLf) (defBody sLf) (defScope sLf) .none kV34 dc34 pm34 an34 cd34 ct34), sl34⟩)
    (c34x : PySem.W.codeIn K cd34 "_law_fitting" = true)
    (k34 : PySem.W.keepIn K (.ref f34) = true)
    (a35 : PySem.W.nsIn K mainGlobals "law" = some (some (.ref f35)))
    (l35 : K.lookup f35 = some ⟨oc35, od35, .func (PySem.W.fnOf "law" "law" (defArgs sLaw) (defBody sLaw) (defScope sLaw) .none kV35 dc35 pm35 an35 cd35 ct35), sl35⟩)
    (c35x : PySem.W.codeIn K cd35 "law" = true)
    (k35 : PySem.W.keepIn K (.ref f35) = true)
    (m0 : PySem.W.nsIn K mainGlobals "MOST_SORTS" = some (some (.int 4 tk0)))
    (m1 : PySem.W.nsIn K mainGlobals "LEAST_CODES" = some (some (.int 2 tk1)))
    (m2 : PySem.W.nsIn K mainGlobals "MOST_CODES" = some (some (.int 6 tk2)))
    (m3 : PySem.W.nsIn K mainGlobals "MOST_NAME" = some (some (.int 8 tk3)))
    (m4 : PySem.W.nsIn K mainGlobals "MOST_CODE" = some (some (.int 4 tk4)))
    (m5 : PySem.W.nsIn K mainGlobals "MOST_RECORDS" = some (some (.int 60 tk5)))
    (m6 : PySem.W.nsIn K mainGlobals "MOST_MEASURE" = some (some (.int 1000000 tk6)))
    (z_len : PySem.W.nsIn K mainGlobals "len" = some none)
    (z_range : PySem.W.nsIn K mainGlobals "range" = some none)
    (z_max : PySem.W.nsIn K mainGlobals "max" = some none)
    (z_tuple : PySem.W.nsIn K mainGlobals "tuple" = some none)
    (z_list : PySem.W.nsIn K mainGlobals "list" = some none)
    (z_enumerate : PySem.W.nsIn K mainGlobals "enumerate" = some none)
    (z_isinstance : PySem.W.nsIn K mainGlobals "isinstance" = some none)
    (z_ValueError : PySem.W.nsIn K mainGlobals "ValueError" = some none)
    (z_repr : PySem.W.nsIn K mainGlobals "repr" = some none)
    (z_int : PySem.W.nsIn K mainGlobals "int" = some none)
    (z_str : PySem.W.nsIn K mainGlobals "str" = some none)
    (z_all : PySem.W.nsIn K mainGlobals "all" = some none)
    (z_set : PySem.W.nsIn K mainGlobals "set" = some none)
    (z_bool : PySem.W.nsIn K mainGlobals "bool" = some none)
    (q_C0 : PySem.W.nsIn K mainGlobals "CountError" = some (some (.ref C0)))
    (q_cB : PySem.W.nsIn K mainGlobals "NoBook" = some (some (.ref cB)))
    (q_cC : PySem.W.nsIn K mainGlobals "NoCodes" = some (some (.ref cC)))
    (q_cP : PySem.W.nsIn K mainGlobals "NoPlan" = some (some (.ref cP)))
    (q_cR : PySem.W.nsIn K mainGlobals "NoRecord" = some (some (.ref cR)))
    (q_cT : PySem.W.nsIn K mainGlobals "NoText" = some (some (.ref cT)))
    (x_cP : PySem.W.excIn K cP [.type "ValueError", .type "Exception", .type "BaseException", .type "object"] "ValueError.__new__" = true)
    (xk_cP : PySem.W.keepIn K (.ref cP) = true)
    (xb_cP : PySem.W.subIn K (.ref cP) (.type "BaseException") = some true)
    (xt_cP : PySem.W.typeIn K (.ref cP) = some (.type "type"))
    (x_cR : PySem.W.excIn K cR [.type "ValueError", .type "Exception", .type "BaseException", .type "object"] "ValueError.__new__" = true)
    (xk_cR : PySem.W.keepIn K (.ref cR) = true)
    (xb_cR : PySem.W.subIn K (.ref cR) (.type "BaseException") = some true)
    (xt_cR : PySem.W.typeIn K (.ref cR) = some (.type "type"))
    (x_cB : PySem.W.excIn K cB [.type "ValueError", .type "Exception", .type "BaseException", .type "object"] "ValueError.__new__" = true)
    (xk_cB : PySem.W.keepIn K (.ref cB) = true)
    (xb_cB : PySem.W.subIn K (.ref cB) (.type "BaseException") = some true)
    (xt_cB : PySem.W.typeIn K (.ref cB) = some (.type "type"))
    (x_cC : PySem.W.excIn K cC [.type "ValueError", .type "Exception", .type "BaseException", .type "object"] "ValueError.__new__" = true)
    (xk_cC : PySem.W.keepIn K (.ref cC) = true)
    (xb_cC : PySem.W.subIn K (.ref cC) (.type "BaseException") = some true)
    (xt_cC : PySem.W.typeIn K (.ref cC) = some (.type "type"))
    (e0 : PySem.W.subIn K (.ref C0) (.type "BaseException") = some true)
    (d0 : PySem.W.hasDictIn K C0 = true)
    (t0 : PySem.W.typeIn K (.ref C0) = some (.type "type"))
    (hn : PySem.W.specialIn K (.builtin "object.__class__") "__get__" = some (some (.builtin "getset_descriptor.__get__")))
    (ht : PySem.W.takesIn K (.builtin "object.__class__") = some true)
    (u0_cC : PySem.W.subIn K (.ref cC) (.ref C0) = some true)
    (ga_cC : PySem.W.findIn K (.ref cC) "__getattribute__" = some (some (.builtin "BaseException.__getattribute__")))
    (gg_cC : PySem.W.findIn K (.ref cC) "__getattr__" = some none)
    (dC_cC : PySem.W.hasDictIn K cC = true)
    (ha_cC : PySem.W.findIn K (.ref cC) "__class__" = some (some (.builtin "object.__class__")))
    (hm_cC : PySem.W.mroIn K cC (.type "object") = some true)
    (ky0_cC : PySem.W.kitAny K (.ref cC) [.ref cB, .ref cP, .ref cR, .ref cT] = some false)
    (ky1_cC : PySem.W.kitOne K (.ref cC) (.ref cC) = some true)
    (ky2_cC : PySem.W.kitOne K (.ref cC) (.type "ValueError") = some true)
    : LawT P w K 12 63 "_law_script" mg fa h := by
  have e := hfa.symm.trans (PySem.W.mg_of X G a35)
  cases e
  have F0 := fun_mk (st := sSl) l0 c0x k0
  have b0 := F0.binds (ps := ["sign"]) fun _ _ _ _ _ _ us hl => match us, hl with | [_], _ => rfl
  have g0 := PySem.W.mg_of X G a0
  have FC1 : FunC K "is_word" "is_word" sIw f1 cc_1 _ := ⟨⟨_, _, _, _, _, _, _, _, rfl, l1, c1x⟩, k1⟩
  have tI1 : PySem.W.tabIn K "is_word" = some (cc_1, TT_1) := tab_mk a1 l1 rfl lc1 v11_1
  have tB1 := TB _ _ _ rq1 tI1
  have F1 := fun_mk (st := sIw) l1 c1x k1
  have b1 := F1.binds (ps := ["thing", "most"]) fun _ _ _ _ _ _ us hl => match us, hl with | [_, _], _ => rfl
  have g1 := PySem.W.mg_of X G a1
  have F2 := fun_mk (st := sTf) l2 c2x k2
  have b2 := F2.binds (ps := ["thing", "many"]) fun _ _ _ _ _ _ us hl => match us, hl with | [_, _], _ => rfl
  have g2 := PySem.W.mg_of X G a2
  have F3 := fun_mk (st := sIn) l3 c3x k3
  have b3 := F3.binds (ps := ["thing"]) fun _ _ _ _ _ _ us hl => match us, hl with | [_], _ => rfl
  have g3 := PySem.W.mg_of X G a3
  have F4 := fun_mk (st := sIc) l4 c4x k4
  have b4 := F4.binds (ps := ["thing"]) fun _ _ _ _ _ _ us hl => match us, hl with | [_], _ => rfl
  have g4 := PySem.W.mg_of X G a4
  have FC5 : FunC K "are_unlike_codes" "are_unlike_codes" sUc f5 cc_5 _ := ⟨⟨_, _, _, _, _, _, _, _, rfl, l5, c5x⟩, k5⟩
  have tI5 : PySem.W.tabIn K "are_unlike_codes" = some (cc_5, TT_5) := tab_mk a5 l5 rfl lc5 v11_5
  have tB5 := TB _ _ _ rq5 tI5
  have F5 := fun_mk (st := sUc) l5 c5x k5
  have b5 := F5.binds (ps := ["things"]) fun _ _ _ _ _ _ us hl => match us, hl with | [_], _ => rfl
  have g5 := PySem.W.mg_of X G a5
  have F6 := fun_mk (st := sIs) l6 c6x k6
  have b6 := F6.binds (ps := ["thing"]) fun _ _ _ _ _ _ us hl => match us, hl with | [_], _ => rfl
  have g6 := PySem.W.mg_of X G a6
  have F7 := fun_mk (st := sPw) l7 c7x k7
  have b7 := F7.binds (ps := ["thing"]) fun _ _ _ _ _ _ us hl => match us, hl with | [_], _ => rfl
  have g7 := PySem.W.mg_of X G a7
  have F8 := fun_mk (st := sNp) l8 c8x k8
  have b8 := F8.binds (ps := ["plan"]) fun _ _ _ _ _ _ us hl => match us, hl with | [_], _ => rfl
  have g8 := PySem.W.mg_of X G a8
  have F9 := fun_mk (st := sWh) l9 c9x k9
  have b9 := F9.binds (ps := ["thing"]) fun _ _ _ _ _ _ us hl => match us, hl with | [_], _ => rfl
  have g9 := PySem.W.mg_of X G a9
  have F10 := fun_mk (st := sWw) l10 c10x k10
  have b10 := F10.binds (ps := ["thing", "least", "most"]) fun _ _ _ _ _ _ us hl => match us, hl with | [_, _, _], _ => rfl
  have g10 := PySem.W.mg_of X G a10
  have F11 := fun_mk (st := sFn) l11 c11x k11
  have b11 := F11.binds (ps := ["plan", "things"]) fun _ _ _ _ _ _ us hl => match us, hl with | [_, _], _ => rfl
  have g11 := PySem.W.mg_of X G a11
  have F12 := fun_mk (st := sWr) l12 c12x k12
  have b12 := F12.binds (ps := ["plan", "thing"]) fun _ _ _ _ _ _ us hl => match us, hl with | [_, _], _ => rfl
  have g12 := PySem.W.mg_of X G a12
  have F13 := fun_mk (st := sIr) l13 c13x k13
  have b13 := F13.binds (ps := ["plan", "thing"]) fun _ _ _ _ _ _ us hl => match us, hl with | [_, _], _ => rfl
  have g13 := PySem.W.mg_of X G a13
  have F14 := fun_mk (st := sWb) l14 c14x k14
  have b14 := F14.binds (ps := ["plan", "thing"]) fun _ _ _ _ _ _ us hl => match us, hl with | [_, _], _ => rfl
  have g14 := PySem.W.mg_of X G a14
  have F15 := fun_mk (st := sAc) l15 c15x k15
  have b15 := F15.binds (ps := ["plan", "thing"]) fun _ _ _ _ _ _ us hl => match us, hl with | [_, _], _ => rfl
  have g15 := PySem.W.mg_of X G a15
  have F16 := fun_mk (st := sNr) l16 c16x k16
  have b16 := F16.binds (ps := ["plan", "record"]) fun _ _ _ _ _ _ us hl => match us, hl with | [_, _], _ => rfl
  have g16 := PySem.W.mg_of X G a16
  have F17 := fun_mk (st := sNb) l17 c17x k17
  have b17 := F17.binds (ps := ["plan", "book"]) fun _ _ _ _ _ _ us hl => match us, hl with | [_, _], _ => rfl
  have g17 := PySem.W.mg_of X G a17
  have F18 := fun_mk (st := sGa) l18 c18x k18
  have b18 := F18.binds (ps := ["plan", "record"]) fun _ _ _ _ _ _ us hl => match us, hl with | [_, _], _ => rfl
  have g18 := PySem.W.mg_of X G a18
  have F19 := fun_mk (st := sTa) l19 c19x k19
  have b19 := F19.binds (ps := ["answers", "codes"]) fun _ _ _ _ _ _ us hl => match us, hl with | [_, _], _ => rfl
  have g19 := PySem.W.mg_of X G a19
  have F20 := fun_mk (st := sTs) l20 c20x k20
  have b20 := F20.binds (ps := ["plan", "book"]) fun _ _ _ _ _ _ us hl => match us, hl with | [_, _], _ => rfl
  have g20 := PySem.W.mg_of X G a20
  have FC21 : FunC K "fits" "fits" sFt f21 cc_21 _ := ⟨⟨_, _, _, _, _, _, _, _, rfl, l21, c21x⟩, k21⟩
  have tI21 : PySem.W.tabIn K "fits" = some (cc_21, TT_21) := tab_mk a21 l21 rfl lc21 v11_21
  have tB21 := TB _ _ _ rq21 tI21
  have F21 := fun_mk (st := sFt) l21 c21x k21
  have b21 := F21.binds (ps := ["record", "codes"]) fun _ _ _ _ _ _ us hl => match us, hl with | [_, _], _ => rfl
  have g21 := PySem.W.mg_of X G a21
  have F22 := fun_mk (st := sFg) l22 c22x k22
  have b22 := F22.binds (ps := ["plan", "book", "codes"]) fun _ _ _ _ _ _ us hl => match us, hl with | [_, _, _], _ => rfl
  have g22 := PySem.W.mg_of X G a22
  have F23 := fun_mk (st := sPurse) l23 c23x k23
  have b23 := F23.binds (ps := ["_law_script"]) fun _ _ _ _ _ _ us hl => match us, hl with | [_], _ => rfl
  have g23 := PySem.W.mg_of X G a23
  have F24 := fun_mk (st := sDraw) l24 c24x k24
  have b24 := F24.binds (ps := ["_law_purse_here", "_law_out_of"]) fun _ _ _ _ _ _ us hl => match us, hl with | [_, _], _ => rfl
  have g24 := PySem.W.mg_of X G a24
  have F25 := fun_mk (st := sPick) l25 c25x k25
  have b25 := F25.binds (ps := ["_law_purse_here", "_law_some"]) fun _ _ _ _ _ _ us hl => match us, hl with | [_, _], _ => rfl
  have g25 := PySem.W.mg_of X G a25
  have F26 := fun_mk (st := sWord) l26 c26x k26
  have b26 := F26.binds (ps := ["_law_purse_here", "_law_most"]) fun _ _ _ _ _ _ us hl => match us, hl with | [_, _], _ => rfl
  have g26 := PySem.W.mg_of X G a26
  have F27 := fun_mk (st := sCodes) l27 c27x k27
  have b27 := F27.binds (ps := ["_law_purse_here"]) fun _ _ _ _ _ _ us hl => match us, hl with | [_], _ => rfl
  have g27 := PySem.W.mg_of X G a27
  have F28 := fun_mk (st := sPlan) l28 c28x k28
  have b28 := F28.binds (ps := ["_law_purse_here", "_law_least"]) fun _ _ _ _ _ _ us hl => match us, hl with | [_, _], _ => rfl
  have g28 := PySem.W.mg_of X G a28
  have F29 := fun_mk (st := sRec) l29 c29x k29
  have b29 := F29.binds (ps := ["_law_purse_here", "_law_plan_here"]) fun _ _ _ _ _ _ us hl => match us, hl with | [_, _], _ => rfl
  have g29 := PySem.W.mg_of X G a29
  have F30 := fun_mk (st := sBk) l30 c30x k30
  have b30 := F30.binds (ps := ["_law_purse_here", "_law_plan_here"]) fun _ _ _ _ _ _ us hl => match us, hl with | [_, _], _ => rfl
  have g30 := PySem.W.mg_of X G a30
  have F31 := fun_mk (st := sOd) l31 c31x k31
  have b31 := F31.binds (ps := ["_law_purse_here", "_law_plan_here", "_law_codes_here"]) fun _ _ _ _ _ _ us hl => match us, hl with | [_, _, _], _ => rfl
  have g31 := PySem.W.mg_of X G a31
  have F32 := fun_mk (st := sRx) l32 c32x k32
  have b32 := F32.binds (ps := ["_law_plan_here", "_law_book_here", "_law_codes_here"]) fun _ _ _ _ _ _ us hl => match us, hl with | [_, _, _], _ => rfl
  have g32 := PySem.W.mg_of X G a32
  have F33 := fun_mk (st := sLt) l33 c33x k33
  have b33 := F33.binds (ps := ["_law_plan_here", "_law_book_here"]) fun _ _ _ _ _ _ us hl => match us, hl with | [_, _], _ => rfl
  have g33 := PySem.W.mg_of X G a33
  have F34 := fun_mk (st := sLf) l34 c34x k34
  have b34 := F34.binds (ps := ["_law_book_here", "_law_codes_here"]) fun _ _ _ _ _ _ us hl => match us, hl with | [_, _], _ => rfl
  have g34 := PySem.W.mg_of X G a34
  have F35 := fun_mk (st := sLaw) l35 c35x k35
  have n_len := PySem.W.mg_none_of X G z_len
  have n_range := PySem.W.mg_none_of X G z_range
  have n_max := PySem.W.mg_none_of X G z_max
  have n_tuple := PySem.W.mg_none_of X G z_tuple
  have n_list := PySem.W.mg_none_of X G z_list
  have n_enumerate := PySem.W.mg_none_of X G z_enumerate
  have n_isinstance := PySem.W.mg_none_of X G z_isinstance
  have n_ValueError := PySem.W.mg_none_of X G z_ValueError
  have n_repr := PySem.W.mg_none_of X G z_repr
  have n_int := PySem.W.mg_none_of X G z_int
  have n_str := PySem.W.mg_none_of X G z_str
  have n_all := PySem.W.mg_none_of X G z_all
  have n_set := PySem.W.mg_none_of X G z_set
  have n_bool := PySem.W.mg_none_of X G z_bool
  have v_MOST_SORTS := PySem.W.mg_of X G m0
  have v_LEAST_CODES := PySem.W.mg_of X G m1
  have v_MOST_CODES := PySem.W.mg_of X G m2
  have v_MOST_NAME := PySem.W.mg_of X G m3
  have v_MOST_CODE := PySem.W.mg_of X G m4
  have v_MOST_RECORDS := PySem.W.mg_of X G m5
  have v_MOST_MEASURE := PySem.W.mg_of X G m6
  have p_C0 := PySem.W.mg_of X G q_C0
  have p_cB := PySem.W.mg_of X G q_cB
  have p_cC := PySem.W.mg_of X G q_cC
  have p_cP := PySem.W.mg_of X G q_cP
  have p_cR := PySem.W.mg_of X G q_cR
  have p_cT := PySem.W.mg_of X G q_cT
  have xo_cP : OwnX K mg "NoPlan" cP := ⟨p_cP, x_cP, xk_cP, xb_cP, xt_cP⟩
  have xo_cR : OwnX K mg "NoRecord" cR := ⟨p_cR, x_cR, xk_cR, xb_cR, xt_cR⟩
  have xo_cB : OwnX K mg "NoBook" cB := ⟨p_cB, x_cB, xk_cB, xb_cB, xt_cB⟩
  have xo_cC : OwnX K mg "NoCodes" cC := ⟨p_cC, x_cC, xk_cC, xb_cC, xt_cC⟩
  have xh : XH mg cC C0 cB cP cR cT := ⟨p_C0, p_cB, p_cP, p_cR, p_cT, p_cC, n_isinstance, n_ValueError⟩
  have xc : XC K cC C0 cB cP cR cT := ⟨PySem.W.exm_ref e0 d0 t0 u0_cC, ⟨ga_cC, gg_cC, xb_cC, dC_cC, ha_cC, hn, ht, hm_cC⟩, ky0_cC, ky1_cC, ky2_cC⟩
  have dr : Dr K mg f24 f25 f26 _ _ _ := ⟨F24, b24, g24, F25, b25, g25, F26, b26, g26, n_len, n_range, n_max, n_tuple⟩
  refine ⟨PySem.W.fnOf "law" "law" (defArgs sLaw) (defBody sLaw) (defScope sLaw) .none kV35 dc35 pm35 an35 cd35 ct35, [(cc_1, TT_1), (cc_5, TT_5), (cc_21, TT_21)], spLaw K TT_1 TT_5 TT_21, fun q hq => ?_, fun s v => .of_eq rfl, fun H a ns hl hT hS => ⟨a, ns, rfl, hS, ⟨⟨#[], hT (cc_1, TT_1) List.mem_cons_self, trivial⟩, #[], hT (cc_5, TT_5) (List.mem_cons_of_mem _ List.mem_cons_self), trivial⟩, ⟨#[], hT (cc_21, TT_21) (List.mem_cons_of_mem _ (List.mem_cons_of_mem _ List.mem_cons_self)), trivial⟩, fun _ => rfl⟩, fun base _ _ tb => ?_⟩
  · rcases List.mem_cons.mp hq with rfl | hq
    · exact tB1
    · rcases List.mem_cons.mp hq with rfl | hq
      · exact tB5
      · rw [List.mem_singleton.mp hq]
        exact tB21
  · have t1 := tb (cc_1, TT_1) List.mem_cons_self
    have t2 := tb (cc_5, TT_5) (List.mem_cons_of_mem _ List.mem_cons_self)
    have t3 := tb (cc_21, TT_21) (List.mem_cons_of_mem _ (List.mem_cons_of_mem _ List.mem_cons_self))
    have gW : ∀ k, FnOk P w K mg base CX0 (k + 3) f1 _ _ (spIw K TT_1 TT_5) := fun k => ok_iw FC1 t1 F0 b0 g0 n_len n_isinstance n_str n_all
    have gS : ∀ k, FnOk P w K mg base CX0 (k + 7) f6 _ _ (spIs K TT_1 TT_5) := fun k => ok_is F6 ⟨ok_tf (k := k + 5) F2 n_len n_isinstance n_tuple, k2, b2, g2⟩ ⟨ok_in (k := k + 5) F3 ⟨gW (k + 2), k1, b1, g1⟩ v_MOST_NAME, k3, b3, g3⟩ ⟨ok_uc (k := k + 4) FC5 t2 ⟨ok_ic (k := k + 3) F4 ⟨gW k, k1, b1, g1⟩ v_MOST_CODE, k4, b4, g4⟩ n_len n_set n_all, k5, b5, g5⟩ n_len n_isinstance n_tuple v_LEAST_CODES v_MOST_CODES
    have gP : ∀ k, FnOk P w K mg base CX0 (k + 8) f7 _ _ (spPw K TT_1 TT_5) := fun k => ok_pw F7 ⟨gS k, k6, b6, g6⟩ n_len n_isinstance n_tuple n_enumerate v_MOST_SORTS
    have gN : ∀ k, FnOk P w K mg base (CX P w) (k + 9) f8 _ _ (spNp cP K TT_1 TT_5) := fun k => ok_np F8 ⟨gP k, k7, b7, g7⟩ xo_cP
    have gWr : ∀ k, FnOk P w K mg base CX0 (k + 3) f12 _ _ (spWr K) := fun k => ok_wr F12 ⟨ok_tf (k := k + 1) F2 n_len n_isinstance n_tuple, k2, b2, g2⟩ ⟨ok_fn (k := k + 1) F11 n_enumerate, k11, b11, g11⟩ ⟨ok_ww (k := k + 1) F10 ⟨ok_wh (k := k) F9 n_isinstance n_int n_bool, k9, b9, g9⟩, k10, b10, g10⟩ n_len v_MOST_MEASURE
    have gIr : ∀ k, FnOk P w K mg base CX0 (k + 4) f13 _ _ (spIr K) := fun k => ok_ir F13 ⟨gWr k, k12, b12, g12⟩
    have gWb : ∀ k, FnOk P w K mg base CX0 (k + 4) f14 _ _ (spWb K) := fun k => ok_wb F14 ⟨gWr k, k12, b12, g12⟩ n_len n_isinstance n_list n_enumerate v_MOST_RECORDS
    have gNr : ∀ k, FnOk P w K mg base (CX P w) (k + 5) f16 _ _ (spNd recWrong cR K) := fun k => ok_nr F16 ⟨gIr k, k13, b13, g13⟩ xo_cR
    have gNb : ∀ k, FnOk P w K mg base (CX P w) (k + 5) f17 _ _ (spNd bookWrong cB K) := fun k => ok_nb F17 ⟨gWb k, k14, b14, g14⟩ xo_cB
    have gAc : ∀ k, FnOk P w K mg base CX0 (k + 2) f15 _ _ (spAc K) := fun k => ok_ac (k := k + 1) F15 ⟨ok_tf (k := k) F2 n_len n_isinstance n_tuple, k2, b2, g2⟩ ⟨ok_fn (k := k) F11 n_enumerate, k11, b11, g11⟩ n_len
    have gFg : ∀ k, FnOk P w K mg base (CX P w) (k + 10) f22 _ _ (spFg cC K TT_1 TT_5 TT_21) := fun k => ok_fg (k := k + 9) F22 ⟨gN k, k8, b8, g8⟩ ⟨gNb (k + 4), k17, b17, g17⟩ ⟨gAc (k + 7), k15, b15, g15⟩ ⟨ok_ft (k := k + 7) FC21 t3 n_all n_enumerate, k21, b21, g21⟩ xo_cC n_enumerate
    exact ok_law (k := 11) F35 ⟨ok_purse (k := 10) F23, k23, b23, g23⟩ ⟨ok_plan (k := 6) F28 dr F27 b27 g27, k28, b28, g28⟩ ⟨ok_rec (k := 10) F29 ⟨ok_draw (k := 9) F24 n_len, k24, b24, g24⟩ ⟨ok_pickT (k := 9) F25 ⟨ok_draw (k := 8) F24 n_len, k24, b24, g24⟩ n_len, k25, b25, g25⟩ n_int n_tuple, k29, b29, g29⟩ ⟨ok_bk (k := 10) F30 ⟨ok_draw (k := 9) F24 n_len, k24, b24, g24⟩ ⟨ok_rec (k := 9) F29 ⟨ok_draw (k := 8) F24 n_len, k24, b24, g24⟩ ⟨ok_pickT (k := 8) F25 ⟨ok_draw (k := 7) F24 n_len, k24, b24, g24⟩ n_len, k25, b25, g25⟩ n_int n_tuple, k29, b29, g29⟩ n_range, k30, b30, g30⟩ ⟨ok_ga (k := 10) F18 ⟨gN 1, k8, b8, g8⟩ ⟨gNr 5, k16, b16, g16⟩ n_len n_range, k18, b18, g18⟩ ⟨ok_ts (k := 10) F20 ⟨gN 1, k8, b8, g8⟩ ⟨gNb 5, k17, b17, g17⟩ ⟨ok_ta (k := 9) F19, k19, b19, g19⟩ n_enumerate, k20, b20, g20⟩ ⟨gFg 1, k22, b22, g22⟩ ⟨ok_lt (k := 10) F33 n_len n_list n_enumerate, k33, b33, g33⟩ ⟨ok_lf (k := 10) F34 n_len n_range n_enumerate, k34, b34, g34⟩ ⟨ok_od (k := 10) F31 ⟨ok_draw (k := 9) F24 n_len, k24, b24, g24⟩ ⟨ok_pick (k := 8) F25 F24 b24 g24 n_len, k25, b25, g25⟩ n_len n_list, k31, b31, g31⟩ ⟨ok_rx (k := 10) F32 xh xc ⟨gFg 0, k22, b22, g22⟩, k32, b32, g32⟩ ⟨ok_draw (k := 10) F24 n_len, k24, b24, g24⟩ ⟨ok_pick (k := 9) F25 F24 b24 g24 n_len, k25, b25, g25⟩ n_range n_repr n_int n_len n_tuple
end Cv
open PySem PySem.W PyProof.Rows
set_option maxRecDepth 100000 in
set_option maxHeartbeats 0 in
theorem PySem.Challenge.cw_countveil_k03_records_counted_holds : PySem.Challenge.rw_countveil_k03_records_counted.Holds := by
  w_on; o_law; k_head; (case hw => w_witness2)
  k_fill
  refine Cv.walk_atT (l := PySem.Challenge.rw_countveil_k03_records_counted) (n := 63) (k := 12) (x := "_law_script") rfl (by decide) rfl ⟨rfl, by decide, by decide⟩ (fun w h Y => PySem.W.kIn_of Y) ?hK ?F
  case hK =>
    intro w
    exact (Eq.refl true)
  case F =>
    intro w mg fa h KX G hmg TB
    refine' Cv.all_mk KX G hmg TB ?a0 ?l0 ?c0x ?k0 ?a1 ?l1 ?c1x ?k1 ?lc1 ?v11_1 ?rq1 ?a2 ?l2 ?c2x ?k2 ?a3 ?l3 ?c3x ?k3 ?a4 ?l4 ?c4x ?k4 ?a5 ?l5 ?c5x ?k5 ?lc5 ?v11_5 ?rq5 ?a6 ?l6 ?c6x ?k6 ?a7 ?l7 ?c7x ?k7 ?a8 ?l8 ?c8x ?k8 ?a9 ?l9 ?c9x ?k9 ?a10 ?l10 ?c10x ?k10 ?a11 ?l11 ?c11x ?k11 ?a12 ?l12 ?c12x ?k12 ?a13 ?l13 ?c13x ?k13 ?a14 ?l14 ?c14x ?k14 ?a15 ?l15 ?c15x ?k15 ?a16 ?l16 ?c16x ?k16 ?a17 ?l17 ?c17x ?k17 ?a18 ?l18 ?c18x ?k18 ?a19 ?l19 ?c19x ?k19 ?a20 ?l20 ?c20x ?k20 ?a21 ?l21 ?c21x ?k21 ?lc21 ?v11_21 ?rq21 ?a22 ?l22 ?c22x ?k22 ?a23 ?l23 ?c23x ?k23 ?a24 ?l24 ?c24x ?k24 ?a25 ?l25 ?c25x ?k25 ?a26 ?l26 ?c26x ?k26 ?a27 ?l27 ?c27x ?k27 ?a28 ?l28 ?c28x ?k28 ?a29 ?l29 ?c29x ?k29 ?a30 ?l30 ?c30x ?k30 ?a31 ?l31 ?c31x ?k31 ?a32 ?l32 ?c32x ?k32 ?a33 ?l33 ?c33x ?k33 ?a34 ?l34 ?c34x ?k34 ?a35 ?l35 ?c35x ?k35 ?m0 ?m1 ?m2 ?m3 ?m4 ?m5 ?m6 ?z_len ?z_range ?z_max ?z_tuple ?z_list ?z_enumerate ?z_isinstance ?z_ValueError ?z_repr ?z_int ?z_str ?z_all ?z_set ?z_bool ?q_C0 ?q_cB ?q_cC ?q_cP ?q_cR ?q_cT ?x_cP ?xk_cP ?xb_cP ?xt_cP ?x_cR ?xk_cR ?xb_cR ?xt_cR ?x_cB ?xk_cB ?xb_cB ?xt_cB ?x_cC ?xk_cC ?xb_cC ?xt_cC ?e0 ?d0 ?t0 ?hn ?ht ?u0_cC ?ga_cC ?gg_cC ?dC_cC ?ha_cC ?hm_cC ?ky0_cC ?ky1_cC ?ky2_cC
    (case a0 => k_is)
    (case l0 => k_is)
    (case c0x => k_is)
    (case k0 => k_is)
    (case a1 => k_is)
    (case l1 => k_is)
    (case c1x => k_is)
    (case k1 => k_is)
    (case lc1 => k_is)
    (case v11_1 => rfl)
    (case rq1 => first | rfl | decide +kernel)
    (case a2 => k_is)
    (case l2 => k_is)
    (case c2x => k_is)
    (case k2 => k_is)
    (case a3 => k_is)
    (case l3 => k_is)
    (case c3x => k_is)
    (case k3 => k_is)
    (case a4 => k_is)
    (case l4 => k_is)
    (case c4x => k_is)
    (case k4 => k_is)
    (case a5 => k_is)
    (case l5 => k_is)
    (case c5x => k_is)
    (case k5 => k_is)
    (case lc5 => k_is)
    (case v11_5 => rfl)
    (case rq5 => first | rfl | decide +kernel)
    (case a6 => k_is)
    (case l6 => k_is)
    (case c6x => k_is)
    (case k6 => k_is)
    (case a7 => k_is)
    (case l7 => k_is)
    (case c7x => k_is)
    (case k7 => k_is)
    (case a8 => k_is)
    (case l8 => k_is)
    (case c8x => k_is)
    (case k8 => k_is)
    (case a9 => k_is)
    (case l9 => k_is)
    (case c9x => k_is)
    (case k9 => k_is)
    (case a10 => k_is)
    (case l10 => k_is)
    (case c10x => k_is)
    (case k10 => k_is)
    (case a11 => k_is)
    (case l11 => k_is)
    (case c11x => k_is)
    (case k11 => k_is)
    (case a12 => k_is)
    (case l12 => k_is)
    (case c12x => k_is)
    (case k12 => k_is)
    (case a13 => k_is)
    (case l13 => k_is)
    (case c13x => k_is)
    (case k13 => k_is)
    (case a14 => k_is)
    (case l14 => k_is)
    (case c14x => k_is)
    (case k14 => k_is)
    (case a15 => k_is)
    (case l15 => k_is)
    (case c15x => k_is)
    (case k15 => k_is)
    (case a16 => k_is)
    (case l16 => k_is)
    (case c16x => k_is)
    (case k16 => k_is)
    (case a17 => k_is)
    (case l17 => k_is)
    (case c17x => k_is)
    (case k17 => k_is)
    (case a18 => k_is)
    (case l18 => k_is)
    (case c18x => k_is)
    (case k18 => k_is)
    (case a19 => k_is)
    (case l19 => k_is)
    (case c19x => k_is)
    (case k19 => k_is)
    (case a20 => k_is)
    (case l20 => k_is)
    (case c20x => k_is)
    (case k20 => k_is)
    (case a21 => k_is)
    (case l21 => k_is)
    (case c21x => k_is)
    (case k21 => k_is)
    (case lc21 => k_is)
    (case v11_21 => rfl)
    (case rq21 => first | rfl | decide +kernel)
    (case a22 => k_is)
    (case l22 => k_is)
    (case c22x => k_is)
    (case k22 => k_is)
    (case a23 => k_is)
    (case l23 => k_is)
    (case c23x => k_is)
    (case k23 => k_is)
    (case a24 => k_is)
    (case l24 => k_is)
    (case c24x => k_is)
    (case k24 => k_is)
    (case a25 => k_is)
    (case l25 => k_is)
    (case c25x => k_is)
    (case k25 => k_is)
    (case a26 => k_is)
    (case l26 => k_is)
    (case c26x => k_is)
    (case k26 => k_is)
    (case a27 => k_is)
    (case l27 => k_is)
    (case c27x => k_is)
    (case k27 => k_is)
    (case a28 => k_is)
    (case l28 => k_is)
    (case c28x => k_is)
    (case k28 => k_is)
    (case a29 => k_is)
    (case l29 => k_is)
    (case c29x => k_is)
    (case k29 => k_is)
    (case a30 => k_is)
    (case l30 => k_is)
    (case c30x => k_is)
    (case k30 => k_is)
    (case a31 => k_is)
    (case l31 => k_is)
    (case c31x => k_is)
    (case k31 => k_is)
    (case a32 => k_is)
    (case l32 => k_is)
    (case c32x => k_is)
    (case k32 => k_is)
    (case a33 => k_is)
    (case l33 => k_is)
    (case c33x => k_is)
    (case k33 => k_is)
    (case a34 => k_is)
    (case l34 => k_is)
    (case c34x => k_is)
    (case k34 => k_is)
    (case a35 => k_is)
    (case l35 => k_is)
    (case c35x => k_is)
    (case k35 => k_is)
    (case m0 => k_is)
    (case m1 => k_is)
    (case m2 => k_is)
    (case m3 => k_is)
    (case m4 => k_is)
    (case m5 => k_is)
    (case m6 => k_is)
    (case z_len => k_is)
    (case z_range => k_is)
    (case z_max => k_is)
    (case z_tuple => k_is)
    (case z_list => k_is)
    (case z_enumerate => k_is)
    (case z_isinstance => k_is)
    (case z_ValueError => k_is)
    (case z_repr => k_is)
    (case z_int => k_is)
    (case z_str => k_is)
    (case z_all => k_is)
    (case z_set => k_is)
    (case z_bool => k_is)
    (case q_C0 => k_is)
    (case q_cB => k_is)
    (case q_cC => k_is)
    (case q_cP => k_is)
    (case q_cR => k_is)
    (case q_cT => k_is)
    (case x_cP => first | k_exc | kernel_rfl)
    (case xk_cP => k_is)
    (case xb_cP => k_is)
    (case xt_cP => k_is)
    (case x_cR => first | k_exc | kernel_rfl)
    (case xk_cR => k_is)
    (case xb_cR => k_is)
    (case xt_cR => k_is)
    (case x_cB => first | k_exc | kernel_rfl)
    (case xk_cB => k_is)
    (case xb_cB => k_is)
    (case xt_cB => k_is)
    (case x_cC => first | k_exc | kernel_rfl)
    (case xk_cC => k_is)
    (case xb_cC => k_is)
    (case xt_cC => k_is)
    (case e0 => k_is)
    (case d0 => k_is)
    (case t0 => k_is)
    (case hn => k_is)
    (case ht => k_is)
    (case u0_cC => first | rfl | k_is)
    (case ga_cC => k_is)
    (case gg_cC => k_is)
    (case dC_cC => k_is)
    (case ha_cC => k_is)
    (case hm_cC => k_is)
    (case ky0_cC => first | rfl | kit_is | decide +kernel)
    (case ky1_cC => first | rfl | kit_is | decide +kernel)
    (case ky2_cC => first | rfl | kit_is | decide +kernel)
